/- Package dye over the machine: lacks; DyeBounds. -/
import Derived.Test.YtlljkhhdhedajaaDyV
namespace Go.Proofs.Ytlljkhhdhedajaa.Vm
open Go
set_option maxRecDepth 100000
set_option maxHeartbeats 2000000
set_option linter.unusedSimpArgs false
set_option linter.unusedVariables false
attribute [-simp] List.getD_eq_getElem?_getD
attribute [local simp] vwant_dv0
/-- the wants of the bits of a number -/
def maskL (m : Nat) : Nat → List Int
  | 0 => []
  | n + 1 => maskL m n ++ if m.testBit n = true then [(n : Int)] else []
theorem maskL_mem {m : Nat} {x : Int} : ∀ {n : Nat}, x ∈ maskL m n ↔ ∃ w : Nat, x = w ∧ w < n ∧ m.testBit w = true
  | 0 => by simp [maskL]
  | n + 1 => by
    rw [maskL, List.mem_append, maskL_mem (n := n)]
    constructor
    · rintro (⟨w, h1, h2, h3⟩ | h)
      · exact ⟨w, h1, by omega, h3⟩
      · split at h
        · rename_i hb
          exact ⟨n, by simpa using h, by omega, hb⟩
        · simp at h
    · rintro ⟨w, h1, h2, h3⟩
      by_cases e : w = n
      · subst e; rw [if_pos h3]; exact Or.inr (by simpa using h1)
      · exact Or.inl ⟨w, h1, by omega, h3⟩
theorem maskL_asc {m : Nat} : ∀ {n : Nat}, (maskL m n).Pairwise (· < ·)
  | 0 => List.Pairwise.nil
  | n + 1 => by
    refine List.pairwise_append.2 ⟨maskL_asc, ?_, fun x hx y hy => ?_⟩
    · split
      · exact List.pairwise_singleton _ _
      · exact List.Pairwise.nil
    · obtain ⟨w, h1, h2, h3⟩ := maskL_mem.1 hx
      split at hy
      · have : y = n := by simpa using hy
        omega
      · simp at hy
theorem maskL_len {m : Nat} : ∀ {n : Nat}, (maskL m n).length ≤ n
  | 0 => by simp [maskL]
  | n + 1 => by
    have := maskL_len (m := m) (n := n)
    rw [maskL, List.length_append]
    split <;> simp <;> omega
theorem maskL_set {m n : Nat} : allN (setB (maskL m n) n) (maskL m n).length = true := allN_of fun i hi => by
  have hg : ∀ k (hk : k < (maskL m n).length), (maskL m n).getD k 0 = (maskL m n)[k] := fun k hk => by rw [List.getD_eq_getElem?_getD, List.getElem?_eq_getElem hk]; rfl
  obtain ⟨w, h1, h2, h3⟩ := maskL_mem.1 (List.getElem_mem hi)
  refine decide_eq_true ⟨by rw [hg i hi]; omega, by rw [hg i hi]; omega, fun h0 => ?_⟩
  rw [hg i hi, hg (i - 1) (by omega)]
  exact (List.pairwise_iff_getElem.1 maskL_asc) (i - 1) i (by omega) hi (by omega)
theorem maskL_in {m n w : Nat} (hw : w < n) : inS (maskL m n) (maskL m n).length w = m.testBit w := by
  have hg : ∀ k (hk : k < (maskL m n).length), (maskL m n).getD k 0 = (maskL m n)[k] := fun k hk => by rw [List.getD_eq_getElem?_getD, List.getElem?_eq_getElem hk]; rfl
  rw [Bool.eq_iff_iff, inS_iff]
  constructor
  · rintro ⟨i, h1, h2⟩
    rw [hg i h1] at h2
    obtain ⟨v, e, _, hb⟩ := maskL_mem.1 (List.getElem_mem h1)
    have : v = w := by omega
    subst this; exact hb
  · intro hb
    obtain ⟨i, hi, e⟩ := List.mem_iff_getElem.1 (maskL_mem.2 ⟨w, rfl, hw, hb⟩ : (w : Int) ∈ maskL m n)
    exact ⟨i, hi, by rw [hg i hi, e]⟩
section
variable {lim : Nat} {H : Hp} {K : V → Hp → Prop} {av bv gv sv : V} {A : List Lot} {B : List Wnt} {G : List Gft} {S : List Int}
theorem mask_bou (hv : valP A B = 0) {m : Nat} : bouE A B (maskL m B.length) = 0 ∧ bouP A B (maskL m B.length) = bndF (netOf A B) fun w => m.testBit w := by
  have e1 : bouE A B (maskL m B.length) = 0 := by simp [bouE, hv, maskL_set]
  refine ⟨e1, ?_⟩
  simp only [bouP, e1, if_true]
  exact bnd_congr fun w hw => maskL_in hw
theorem dye_Lack (ha : LstV lotC H av A) (hb : LstV wntC H bv B) (hlim : lim ≤ H.length) (hK : ∀ H' v S, HX H H' → SlV H' v S → S.length ≤ 6 → (valP A B = 0 → bouE A B S = 0 ∧ bouP A B S = mostF (netOf A B)) → (valP A B ≠ 0 → S = []) → K (.tup [v, .int .i64 (valP A B)]) H') : VCall tbl lim 56 [av, bv] H K := by
  refine VCall_fn tbl_at56 rfl ?_
  simp [vf56, ha.stor, hb.stor]
  refine dye_Best ha hb hlim fun H1 v G x1 hG ok no => ?_
  replace x1 : HX H H1 := x1
  have l1 := x1.len
  by_cases hv : valP A B = 0
  case neg =>
    have := hK H1 .snil [] x1 .nil (by simp) (fun h => absurd h hv) (fun _ => rfl)
    simp [hv]; exact this
  obtain ⟨b1, b2, b3, b4⟩ := net_bd hv
  have hm : mostP A B = mostF (netOf A B) := by simp [mostP, hv]
  have hsh := shl_one (k := .i64) b2
  have hp : 2 ^ B.length ≤ 2 ^ 6 := Nat.pow_le_pow_right (by omega) b2
  have e64 : (2 : Nat) ^ 6 = 64 := rfl
  have hex : ∃ m, m < 2 ^ B.length ∧ mostF (netOf A B) = bndF (netOf A B) fun w => m.testBit w := most_ex (p := netOf A B)
  generalize hP : 2 ^ B.length = P at *
  simp [hv, hm, hb.len, hsh]
  refine wLoop_up P (fun n fr L H' => (fr 0 = av ∧ fr 1 = bv ∧ fr 7 = .int .i64 (mostF (netOf A B)) ∧ fr 26 = .int .i64 (P : Int) ∧ fr 27 = .int .i64 n) ∧ HX H H' ∧ ∀ m, m < n → mostF (netOf A B) ≠ bndF (netOf A B) fun w => m.testBit w) ⟨by simp, x1, fun m hm => by omega⟩ ?_
  rintro n hn fr L H2 ⟨⟨f0, f1, f7, f26, f27⟩, hx, hno⟩
  have hxl := hx.len
  simp [f0, f1, f7, f26, f27, hb.len]
  refine cond_dec (fun ht => ?_) fun hfl => ?_
  case refine_2 =>
    exfalso
    obtain ⟨m, h1, h2⟩ := hex
    exact hno m (by omega) h2
  have ht : n < P := by omega
  simp [f0, f1, f7, f26, f27, hb.len]
  refine wLoop_post 2 (fun fr L H' => ∃ u, (fr 0 = av ∧ fr 1 = bv ∧ fr 7 = .int .i64 (mostF (netOf A B)) ∧ fr 26 = .int .i64 (P : Int) ∧ fr 27 = .int .i64 n ∧ fr 10 = u) ∧ HX H H' ∧ OwnV H.length H' u (maskL n B.length)) ?_ ?_
  · refine wLoop_up B.length (fun w fr L H' => ∃ u, (fr 0 = av ∧ fr 1 = bv ∧ fr 7 = .int .i64 (mostF (netOf A B)) ∧ fr 26 = .int .i64 (P : Int) ∧ fr 27 = .int .i64 n ∧ fr 9 = .int .i64 n ∧ fr 10 = u ∧ fr 31 = .int .i64 B.length ∧ fr 32 = .int .i64 w) ∧ HX H H' ∧ OwnV H.length H' u (maskL n w)) ⟨.snil, by simp [f0, f1, f7, f26, f27, hb.len], hx, .nil⟩ ?_
    clear f0 f1 f7 f26 f27 hx hxl
    rintro w hw fr L H3 ⟨u, ⟨f0, f1, f7, f26, f27, f9, f10, f31, f32⟩, hx, hu⟩
    have hxl := hx.len
    simp [f0, f1, f7, f26, f27, f9, f10, f31, f32]
    refine cond_dec (fun ht2 => ?_) fun hfl2 => ?_
    · have ht2 : w < B.length := by omega
      obtain ⟨x, h1, h2⟩ : ∃ x, vbin .shr (.int .i64 (n : Int)) (.int .i64 (w : Int)) = some (.int .i64 x) ∧ vbin .and (.int .i64 x) (.int .i64 1) = some (.int .i64 (if n.testBit w = true then 1 else 0)) := ⟨_, (shr_and (by omega) (by omega)).1, (shr_and (k := .i64) (by omega) (by omega)).2⟩
      have hml := maskL_len (m := n) (n := w)
      have hsucc : maskL n (w + 1) = maskL n w ++ if n.testBit w = true then [(w : Int)] else [] := rfl
      cases hbit : n.testBit w with
      | true =>
        rw [hbit] at h2 hsucc
        simp only [if_true] at h2 hsucc
        have a5 := hu.append (lim := lim) (x := (w : Int)) ⟨hlim, by omega⟩
        have p5 := hu.ap hxl (x := (w : Int)) (new := [.int .i64 (w : Int)])
        have xx5 := hu.apX hx (Nat.le_refl _) (new := [.int .i64 (w : Int)]) (all := ints (maskL n w ++ [(w : Int)]))
        simp (disch := omega) [f0, f1, f7, f26, f27, f9, f10, f31, f32, h1, h2, wrap_i64, vbslice_some, a5, hsucc]
        exact ⟨by omega, xx5, by simpa using p5⟩
      | false =>
        rw [hbit] at h2 hsucc
        simp only [Bool.false_eq_true, if_false, List.append_nil] at h2 hsucc
        simp (disch := omega) [f0, f1, f7, f26, f27, f9, f10, f31, f32, h1, h2, wrap_i64, hsucc]
        exact ⟨by omega, hx, hu⟩
    · have : w = B.length := by omega
      subst this
      simp [f0, f1, f7, f26, f27, f10]
      exact ⟨hx, hu⟩
  clear f0 f1 f7 f26 f27 hx hxl
  rintro fr L H3 ⟨u, ⟨f0, f1, f7, f26, f27, f10⟩, hx, hu⟩
  have hml := maskL_len (m := n) (n := B.length)
  simp [f0, f1, f7, f26, f27, f10, ha.stor, hb.stor, hu.sl.stor]
  refine dye_Bound (ha.mono hx) (hb.mono hx) hu.sl (by omega) ?_
  obtain ⟨q1, q2⟩ := mask_bou (A := A) hv (m := n)
  rw [q1, q2]
  by_cases he : mostF (netOf A B) = bndF (netOf A B) fun w => n.testBit w
  · have he2 : ((bndF (netOf A B) fun w => n.testBit w) = mostF (netOf A B)) = True := eq_true he.symm
    simp [f0, f1, f7, f26, f27, f10, he2, hu.sl.stor]
    have := hK H3 u (maskL n B.length) hx hu.sl (by omega) (fun _ => ⟨q1, by rw [q2, he]⟩) (fun h => absurd hv h)
    rw [hv] at this
    exact this
  · have he2 : ((bndF (netOf A B) fun w => n.testBit w) = mostF (netOf A B)) = False := eq_false (fun e => he e.symm)
    simp (disch := omega) [f0, f1, f7, f26, f27, f10, he2, wrap_i64]
    exact ⟨ht, hx, fun m hm2 => by
      by_cases e : m = n
      · subst e; exact he
      · exact hno m (by omega)⟩
theorem law_DyeBounds {ws : List V} {f : Trd} (hv : TrdV H ws f) (hs : SlV H sv S) (hlim : lim ≤ H.length) (hK : ∀ H', K (.bool true) H') : VCall tbl lim 15 [.agg ws, sv] H K := by
  cases hv with
  | mk ha hb =>
    rename_i av bv A B
    refine VCall_fn tbl_at15 rfl ?_
    have d100 : decide (100 < (S.length : Int)) = decide (100 < S.length) := by simp only [decide_eq_decide]; omega
    simp [vf15, ha.stor, hb.stor, ha.one, hb.one, hs.stor]
    refine law_wide ha hb ?_
    by_cases h1 : (decide (30 < A.length) || decide (30 < B.length)) = true
    · rw [h1]
      simp
      refine law_known hlim fun H1 => ?_
      simp; exact hK _
    have h1 : (decide (30 < A.length) || decide (30 < B.length)) = false := by simpa using h1
    rw [h1]
    by_cases h2 : 100 < S.length
    · simp [hs.len, d100, h2]
      refine law_known hlim fun H1 => ?_
      simp; exact hK _
    simp [hs.len, d100, h2, ha.stor, hb.stor, hs.stor]
    refine dye_Bound ha hb hs (by omega) ?_
    simp [ha.stor, hb.stor, hs.stor]
    refine ref_Bound ha hb hs (by omega) ?_
    simp [ha.stor, hb.stor]
    refine dye_Lack ha hb hlim fun H1 v T x1 hT hl ok no => ?_
    replace x1 : HX H H1 := x1
    have l1 := x1.len
    have ha1 := ha.mono x1
    have hb1 := hb.mono x1
    simp [hT.stor, ha.stor, hb.stor]
    refine ref_Most ha1 hb1 ?_
    by_cases hval : valP A B = 0
    case neg =>
      have hT0 := no hval
      subst hT0
      have hlen := hT.len
      simp [eq_false hval, hlen]
      refine law_known (by omega) fun H4 => ?_
      simp; exact hK _
    obtain ⟨q1, q2⟩ := ok hval
    have hm : mostP A B = mostF (netOf A B) := by simp [mostP, hval]
    simp [hval, hm, ha.stor, hb.stor, hT.stor]
    refine ref_Bound ha1 hb1 hT (by omega) ?_
    rw [q1, q2]
    simp
    refine law_known (by omega) fun H4 => ?_
    simp; exact hK _
end
end Go.Proofs.Ytlljkhhdhedajaa.Vm
