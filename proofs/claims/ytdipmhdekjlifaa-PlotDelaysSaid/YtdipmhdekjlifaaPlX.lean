/- Package plot over the machine: Least, Assign; the document's Least and Used; PlotLeast. -/
import Derived.Test.YtdipmhdekjlifaaPlW
namespace Go.Proofs.Ytdipmhdekjlifaa.Vm
open Go
set_option maxRecDepth 100000
set_option maxHeartbeats 1000000
set_option linter.unusedSimpArgs false
set_option linter.unusedVariables false
attribute [-simp] List.getD_eq_getElem?_getD
def leP (p : Ply) : Int := if valP p = 0 then (leastP p : Int) else 0
section
variable {lim : Nat} {H : Hp} {K : V → Hp → Prop} {wv : V} {W : List Wr} {r c x y q u1 u2 u3 : Int} {v w : V}
theorem crw_len {p : Ply} {s a : Int} : crw p s a ≤ p.W.length := List.countP_le_length
theorem mxS_len {p : Ply} {s : Int} : mxS p s ≤ p.W.length := mxS_le fun w _ _ => crw_len
theorem mxN_len {p : Ply} {s : Int} {n : Nat} : mxN p s n ≤ p.W.length := mxN_le fun i _ _ => crw_len
theorem leN_len {p : Ply} : ∀ {n : Nat}, leN p n ≤ n * p.W.length
  | 0 => Nat.zero_le _
  | n + 1 => by
    rw [leN_step, Nat.succ_mul]
    have := leN_len (p := p) (n := n)
    have := mxS_len (p := p) (s := ((n + 1 : Nat) : Int))
    omega
theorem plot_Least (hw : LstV wrC H wv W) (hlim : lim ≤ H.length) (hK : ∀ H', HX H H' → K (.tup [.int .i64 (leP ⟨W, r, c⟩), .int .i64 (valP ⟨W, r, c⟩)]) H') : VCall tbl lim 29 [.agg [wv, .int .i64 r, .int .i64 c]] H K := by
  refine VCall_fn tbl_at29 rfl ?_
  simp [vf29, hw.stor, hw.one]
  refine plot_Validate hw ?_
  by_cases hval : valP ⟨W, r, c⟩ = 0
  · simp [hval, hw.stor]
    refine plot_assign hw hval hlim fun H' v wl hx ho hu => ?_
    simp
    have := hK H' hx
    simp only [leP, hval, if_true] at this
    exact this
  · simp [hval]
    have := hK H HX.refl
    simp only [leP, hval, if_false] at this
    exact this
theorem plot_Assign (hw : LstV wrC H wv W) (hlim : lim ≤ H.length) (hK : ∀ H' v wl, HX H H' → OwnV H.length H' v wl → (valP ⟨W, r, c⟩ = 0 → UsedW ⟨W, r, c⟩ wl (leastP ⟨W, r, c⟩)) → (valP ⟨W, r, c⟩ ≠ 0 → wl = []) → K (.tup [v, .int .i64 (valP ⟨W, r, c⟩)]) H') : VCall tbl lim 31 [.agg [wv, .int .i64 r, .int .i64 c]] H K := by
  refine VCall_fn tbl_at31 rfl ?_
  simp [vf31, hw.stor, hw.one]
  refine plot_Validate hw ?_
  by_cases hval : valP ⟨W, r, c⟩ = 0
  · simp [hval, hw.stor]
    refine plot_assign hw hval hlim fun H' v wl hx ho hu => ?_
    simp [ho.sl.stor]
    have := hK H' v wl hx ho (fun _ => hu) (fun h => absurd hval h)
    rw [hval] at this
    exact this
  · simp [hval]
    exact hK H .snil [] HX.refl .nil (fun h => absurd h hval) (fun _ => rfl)
theorem ref_Least (hw : LstV wrC H wv W) (hlim : lim ≤ H.length) (hK : ∀ H', HX H H' → K (.tup [.int .i64 (leP ⟨W, r, c⟩), .int .i64 (valP ⟨W, r, c⟩)]) H') : VCall tbl lim 30 [.agg [wv, .int .i64 r, .int .i64 c]] H K := by
  refine VCall_fn tbl_at30 rfl ?_
  simp [vf30, hw.stor, hw.one]
  refine ref_Validate hw ?_
  by_cases hval : valP ⟨W, r, c⟩ = 0
  case neg =>
    simp [hval]
    have := hK H HX.refl
    simp only [leP, hval, if_false] at this
    exact this
  obtain ⟨g1, g2, g3, g4, g5⟩ := valP_ok hval
  simp only at g1 g2 g3 g4 g5
  simp [hval]
  refine wLoop_up 99 (fun n fr L H' => (fr 1 = .lp 0 0 ∧ fr 5 = .int .i64 (leN ⟨W, r, c⟩ n) ∧ fr 6 = .int .i64 ((n + 1 : Nat) : Int)) ∧ L[0]? = some [wv, .int .i64 r, .int .i64 c] ∧ HX H H') ⟨by simp [leN], rfl, HX.refl⟩ ?_
  rintro n hn fr L H1 ⟨⟨f1, f5, f6⟩, l0, hx⟩
  have hnl := leN_len (p := ⟨W, r, c⟩) (n := n)
  have hnl2 : n * W.length ≤ 99 * 16 := Nat.mul_le_mul hn g1
  simp only at hnl
  simp [f1, f5, f6]
  refine cond_dec (fun ht => ?_) fun hfl => ?_
  · have ht : n < 99 := by omega
    simp [f1, f5, f6]
    refine wLoop_post 2 (fun fr L H' => (fr 1 = .lp 0 0 ∧ fr 5 = .int .i64 (leN ⟨W, r, c⟩ n) ∧ fr 6 = .int .i64 ((n + 1 : Nat) : Int) ∧ fr 7 = .int .i64 (mxS ⟨W, r, c⟩ ((n + 1 : Nat) : Int))) ∧ L[0]? = some [wv, .int .i64 r, .int .i64 c] ∧ HX H H') ?_ ?_
    · refine wLoop_up W.length (fun i fr L H' => (fr 1 = .lp 0 0 ∧ fr 5 = .int .i64 (leN ⟨W, r, c⟩ n) ∧ fr 6 = .int .i64 ((n + 1 : Nat) : Int) ∧ fr 7 = .int .i64 (mxN ⟨W, r, c⟩ ((n + 1 : Nat) : Int) i) ∧ fr 8 = .int .i64 i) ∧ L[0]? = some [wv, .int .i64 r, .int .i64 c] ∧ HX H H') ⟨by simp [f1, f5, f6, mxN], l0, hx⟩ ?_
      clear f1 f5 f6 l0 hx
      rintro i hi fr L H1 ⟨⟨f1, f5, f6, f7, f8⟩, l0, hx⟩
      have hw1 := hw.mono hx
      simp [f1, f5, f6, f7, f8, l0, hw1.len]
      refine cond_dec (fun ht2 => ?_) fun hfl2 => ?_
      · have ht2 : i < W.length := by omega
        have fa1 := hw1.faddr (i := i) (j := 1) ht2
        have fa2 := hw1.faddr (i := i) (j := 2) ht2
        simp (disch := omega) [f1, f5, f6, f7, f8, l0, hw1.at ht2, fa1, fa2, wr_get hw1, lpId_ept, lpId_eptf]
        refine cond_dec (fun hs => ?_) fun hs => ?_
        · simp (disch := omega) [f1, f5, f6, f7, f8, l0, hw1.at ht2, fa1, fa2, wr_get hw1, lpId_ept, lpId_eptf, hw1.stor]
          refine ref_crowd hw1 hval (Nat.le_refl _) fun H2 v2 x2 o2 => ?_
          replace x2 : HX H1 H2 := x2
          have hl2 : (crowdL ⟨W, r, c⟩ ((n : Int) + 1) (W.getD i default).f W.length).length = crw ⟨W, r, c⟩ ((n : Int) + 1) (W.getD i default).f := crowdL_len (p := ⟨W, r, c⟩)
          have hsc : mxN ⟨W, r, c⟩ ((n : Int) + 1) (i + 1) = max (mxN ⟨W, r, c⟩ ((n : Int) + 1) i) (crw ⟨W, r, c⟩ ((n : Int) + 1) (W.getD i default).f) := by
            rw [mxN]; exact if_pos hs
          have hmx : ∀ a b : Nat, max (a : Int) (b : Int) = ((max a b : Nat) : Int) := fun a b => by omega
          simp (disch := omega) [f1, f5, f6, f7, f8, l0, wrap_i64, o2.sl.len, hl2, hmx, hsc]
          exact ⟨by omega, hx.trans x2⟩
        · have hsc : mxN ⟨W, r, c⟩ ((n : Int) + 1) (i + 1) = mxN ⟨W, r, c⟩ ((n : Int) + 1) i := by
            rw [mxN]; exact if_neg hs
          simp (disch := omega) [f1, f5, f6, f7, f8, l0, wrap_i64, hsc]
          exact ⟨by omega, hx⟩
      · have : i = W.length := by omega
        subst this
        simp [f1, f5, f6, f7, f8, l0]
        exact ⟨rfl, hx⟩
    clear f1 f5 f6 l0 hx
    rintro fr L H2 ⟨⟨f1, f5, f6, f7⟩, l0, hx⟩
    have hms := mxS_len (p := ⟨W, r, c⟩) (s := ((n + 1 : Nat) : Int))
    have hls : leN ⟨W, r, c⟩ (n + 1) = leN ⟨W, r, c⟩ n + mxS ⟨W, r, c⟩ ((n + 1 : Nat) : Int) := leN_step
    simp only at hms
    simp only [Int.natCast_add, Int.cast_ofNat_Int] at hms hls f7
    simp (disch := omega) [f1, f5, f6, f7, l0, wrap_i64, hls]
    exact ⟨by omega, hx⟩
  · have : n = 99 := by omega
    subst this
    simp [f5]
    have := hK H1 hx
    rw [hval] at this
    simp only [leP, hval, if_true] at this
    exact this
end
end Go.Proofs.Ytdipmhdekjlifaa.Vm
