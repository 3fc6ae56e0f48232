/- Package plot over the machine: sizes: the wearings of each size, in the order of their times. -/
import Derived.Test.YtkmcdiajcnejiaaPlU
namespace Go.Proofs.Ytkmcdiajcnejiaa.Vm
open Go
set_option maxRecDepth 100000
set_option maxHeartbeats 1000000
set_option linter.unusedSimpArgs false
set_option linter.unusedVariables false
attribute [-simp] List.getD_eq_getElem?_getD
section
variable {lim : Nat} {H : Hp} {K : V → Hp → Prop} {wv : V} {W : List Wr} {r c x y q u1 u2 u3 : Int} {v w : V}
theorem wg_load {A : List Wg} {u : V} (h : LstV wgC H u A) {i : Nat} (hi : i < A.length) {L : Lo} : vload (some 5) L H (ept 5 u i) = some (.agg [.int .i64 (A.getD i default).a, .int .i64 (A.getD i default).s, .int .i64 (A.getD i default).f, .int .i64 (A.getD i default).t, .int .i64 (A.getD i default).n]) := h.load hi
theorem wg_get {A : List Wg} {u : V} (h : LstV wgC H u A) {i j : Nat} (hi : i < A.length) (hj : j < 5) {L : Lo} : vload none L H (eptf 5 u i j) = rd none [.int .i64 (A.getD i default).a, .int .i64 (A.getD i default).s, .int .i64 (A.getD i default).f, .int .i64 (A.getD i default).t, .int .i64 (A.getD i default).n] j := h.rd1 hi hj
theorem plot_sizes (hw : LstV wrC H wv W) (hval : valP ⟨W, r, c⟩ = 0) (hlim : lim ≤ H.length)
    (hK : ∀ H' v u A rs, HX H H' → ArrW ⟨W, r, c⟩ A → RnsW A A.length rs → OwnT H.length wgC H' u A → OwnT H.length (rnC u) H' v rs → K v H') : VCall tbl lim 66 [.agg [wv, .int .i64 r, .int .i64 c]] H K := by
  refine VCall_fn tbl_at66 rfl ?_
  obtain ⟨g1, g2, g3, g4, g5⟩ := valP_ok hval
  simp only at g1 g2 g3 g4 g5
  simp [vf66, hw.len, hw.one, hw.stor]
  refine wLoop_up W.length (fun i fr L H' => ∃ u, (fr 10 = wv ∧ fr 11 = .int .i64 W.length ∧ fr 12 = .int .i64 i ∧ fr 3 = u) ∧ HX H H' ∧ OwnT H.length wgC H' u (numN W i)) ⟨.snil, by simp, HX.refl, .nil⟩ ?_
  rintro i hi fr L H' ⟨u, ⟨f10, f11, f12, f3⟩, hx, hu⟩
  have hxl := hx.len
  simp [f10, f11, f12, f3]
  refine cond_dec (fun ht => ?_) fun hfl => ?_
  · have ht : i < W.length := by omega
    obtain ⟨v', H2, a1, a2, a3, a4, a5, a6⟩ := hu.append (lim := lim) (bytes := 40) (x := mkWg (W.getD i default) i) (cs := [.int .i64 (W.getD i default).a, .int .i64 (W.getD i default).s, .int .i64 (W.getD i default).f, .int .i64 (W.getD i default).t, .int .i64 (i : Int)]) rfl ⟨by omega, by omega⟩ (by omega) (by rw [numN_len]; omega)
    simp (disch := omega) [f10, f11, f12, f3, hw.at ht, wr_load (hw.mono hx), lastO, lastS, splice44, splice, iz4, iz5, wrap_i64, vbslice_some, a1]
    exact ⟨by omega, a3 H hx (Nat.le_refl _), a2⟩
  · have : i = W.length := by omega
    subst this
    simp [f3, hu.lst.stor]
    refine sort_wg (g := 88) (fs := []) (cs := []) (cf := wgCf) hu hlim hxl ⟨rfl, rfl⟩ (fun b => wear_cmp) wgCf_ordr (by rw [numN_len]; omega) fun A H2 hp hs hA hl2 hoth => ?_
    have hx2 : HX H H2 := HX.of (by omega) fun b hb => by rw [hoth b hb]; exact hx.same hb
    have hAl : A.length = W.length := by rw [hp.length_eq, numN_len]
    have arr : ArrW ⟨W, r, c⟩ A := ⟨hp, hs⟩
    have hAb := hA.below
    have hAg := hA.ge
    clear hoth hu hx hxl hp hs
    simp [f3]
    refine wLoop_m (n := A.length) (fun k fr L H' => ∃ m rs q, (fr 3 = u ∧ fr 7 = .int .i64 (m : Nat) ∧ fr 6 = q) ∧ HX H2 H' ∧ OwnT H2.length (rnC u) H' q rs ∧ RnsW A m rs ∧ (0 < m → m < A.length → (A.getD (m - 1) default).s ≠ (A.getD m default).s) ∧ m ≤ A.length ∧ k = A.length - m) ⟨0, [], .snil, by simp [f3], HX.refl, .nil, .nil, fun h => by omega, Nat.zero_le _, rfl⟩ ?_
    clear f10 f11 f12 f3
    rintro k fr L H3 ⟨m, rs, q, ⟨f3, f7, f6⟩, hx3, hq, hR, hbrk, hm, hk⟩
    have hxl3 := hx3.len
    have hA3 := hA.lst.mono hx3
    simp [f3, f7, f6, hA3.len]
    refine cond_dec (fun ht => ?_) fun hfl => ?_
    · have ht : m < A.length := by omega
      simp [f3, f7, f6]
      refine wLoop_post 4 (fun fr L H' => ∃ d, (fr 3 = u ∧ fr 7 = .int .i64 (m : Nat) ∧ fr 6 = q ∧ fr 8 = .int .i64 ((m + d : Nat) : Int)) ∧ H' = H3 ∧ RunW A m d) ?_ ?_
      · refine wLoop_up (A.length - m) (fun d fr L H' => (fr 3 = u ∧ fr 7 = .int .i64 (m : Nat) ∧ fr 6 = q ∧ fr 8 = .int .i64 ((m + d : Nat) : Int)) ∧ H' = H3 ∧ ∀ j, m ≤ j → j < m + d → (A.getD j default).s = (A.getD m default).s) ⟨by simp [f3, f7, f6], rfl, fun j h1 h2 => by omega⟩ ?_
        clear f3 f7 f6
        rintro d hd fr L H4 ⟨⟨f3, f7, f6, f8⟩, e4, heq⟩
        have e4 := e4.symm
        subst e4
        have fa0 : ∀ i, i < A.length → vfaddr 0 (ept 5 u i) = some (eptf 5 u i 0) := fun i hi => hA3.faddr hi
        have fa1 : ∀ i, i < A.length → vfaddr 1 (eptf 5 u i 0) = some (eptf 5 u i 1) := fun i hi => hA3.faddr2 hi
        by_cases hmd : m + d < A.length
        · have hgt : ((m : Int) + (d : Int) < (A.length : Int)) = True := eq_true (by omega)
          have ad := hA3.addr (i := (m : Int) + (d : Int)) (by omega)
          have e2 : ((m : Int) + (d : Int)).toNat = m + d := by omega
          rw [e2] at ad
          simp (disch := omega) [f3, f7, f6, f8, hA3.len, hgt, ad, hA3.at ht, fa0, fa1, wg_get hA3, lpId_ept, lpId_eptf]
          refine cond_dec (fun hsz => ?_) fun hsz => ?_
          · simp (disch := omega) [f3, f7, f6, f8, wrap_i64]
            refine ⟨by omega, by omega, fun j h1 h2 => ?_⟩
            by_cases e : j = m + d
            · subst e; exact hsz
            · exact heq j h1 (by omega)
          · simp [f3, f7, f6, f8]
            have hd0 : 0 < d := by
              apply Classical.byContradiction
              intro hn
              have : d = 0 := by omega
              subst this; exact hsz rfl
            exact ⟨d, by omega, hd0, by omega, heq, fun _ => hsz, fun h => hbrk h ht⟩
        · have hgt : ((m : Int) + (d : Int) < (A.length : Int)) = False := eq_false (by omega)
          simp (disch := omega) [f3, f7, f6, f8, hA3.len, hgt]
          exact ⟨d, by omega, by omega, by omega, heq, fun h => by omega, fun h => hbrk h ht⟩
      clear f3 f7 f6
      rintro fr L H4 ⟨d, ⟨f3, f7, f6, f8⟩, e4, hrun⟩
      have e4 := e4.symm
      subst e4
      have hrp := hrun.pos
      have hrl := hrun.le
      have hs3 := hA3.sub3 (a := m) (b := m + d) (by omega) (by omega)
      have hsub := hA3.sub (a := m) (b := m + d) (by omega)
      have s1 := hsub.stor
      have s2 := hsub.one
      obtain ⟨v', H5, a1, a2, a3, a4, a5, a6⟩ := hq.append (lim := lim) (bytes := 24) (x := (m, m + d)) (cs := [subV u m (m + d)]) rfl ⟨by have := hx2.len; omega, by omega⟩ (by omega) (by have := hR.len; omega)
      simp only [Int.natCast_add] at hs3
      simp (disch := omega) [f3, f7, f6, f8, hs3, s1, s2, vbslice_some, splice, a1]
      refine ⟨A.length - (m + d), by omega, m + d, rs ++ [(m, m + d)], v', ⟨by omega, rfl⟩, a3 H2 hx3 (Nat.le_refl _), a2, hR.snoc hrun, fun h1 h2 he => ?_, by omega, rfl⟩
      have e1 := hrun.eq (m + d - 1) (by omega) (by omega)
      exact hrun.ne h2 (by rw [← he, e1])
    · have : m = A.length := by omega
      subst this
      simp [f6, hq.lst.stor]
      exact hK _ _ _ _ _ (hx2.trans hx3) arr hR (hA.mono hx3) (hq.le (by have := hx2.len; omega))
end
end Go.Proofs.Ytkmcdiajcnejiaa.Vm
