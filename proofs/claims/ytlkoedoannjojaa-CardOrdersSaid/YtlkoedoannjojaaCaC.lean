/- Package card over the machine: right texts, what has been seen. -/
import Derived.Test.YtlkoedoannjojaaCaB
namespace Go.Proofs.Ytlkoedoannjojaa.Vm
open Go
set_option maxRecDepth 100000
set_option linter.unusedSimpArgs false
set_option linter.unusedVariables false
attribute [-simp] List.getD_eq_getElem?_getD
section
variable {lim : Nat} {H : Hp} {K : V → Hp → Prop} {v : V} {c : List En} {e f : En} {s : ByteArray} {n : Int}
theorem card_isPlace (hK : K (.bool (decide (0 ≤ n ∧ n ≤ 2))) H) : VCall tbl lim 43 [.int .i64 n] H K := by
  refine VCall_fn tbl_at43 rfl ?_
  have e : decide (0 ≤ n ∧ n ≤ 2) = (decide (0 ≤ n) && decide (n < 3)) := by rw [Bool.decide_and]; congr 1; simp only [decide_eq_decide]; omega
  rw [e] at hK
  simp [vf43]
  simpa using hK
theorem card_hasSeen (hf : 0 ≤ f.p ∧ f.p ≤ 2) (hK : K (.bool (seesB e f)) H) : VCall tbl lim 51 [.agg e.cells, .agg f.cells] H K := by
  refine VCall_fn tbl_at51 rfl ?_
  have a1 := en_rd (p := e.p) (s := e.s) (a := e.a) (b := e.b) (c := e.c) (t := e.t) (q := f.p.toNat) (by omega)
  simp (disch := omega) [vf51, En.cells, a1]
  exact hK
theorem ref_seen (hf : 0 ≤ f.p ∧ f.p ≤ 2) (hK : K (.bool (seesB e f)) H) : VCall tbl lim 52 [.agg e.cells, .agg f.cells] H K := by
  refine VCall_fn tbl_at52 rfl ?_
  have a1 := en_rd (p := e.p) (s := e.s) (a := e.a) (b := e.b) (c := e.c) (t := e.t) (q := f.p.toNat) (by omega)
  simp (disch := omega) [vf52, En.cells, a1]
  exact hK
theorem card_isRight (hs : s.size ≤ 1000) (hK : ∀ H', HX H H' → K (.bool (rightB s)) H') : VCall tbl lim 44 [.str s] H K := by
  refine VCall_fn tbl_at44 rfl ?_
  by_cases h1 : s.size = 0
  · have e : rightB s = false := by simp [rightB, h1]
    rw [e] at hK
    simp [vf44, h1]
    exact hK _ (HX.refl)
  by_cases h2 : 60 < s.size
  · have e : rightB s = false := by simp [rightB]; omega
    rw [e] at hK
    simp [vf44, h1, show ¬ (s.size : Int) < 1 by omega, show (60 : Int) < s.size by omega]
    exact hK _ (HX.refl)
  have i0 := idxT (s := s) (i := 0) (by omega)
  have i1 := idxT (s := s) (i := s.size - 1) (by omega)
  have e1 : ((s.size - 1 : Nat) : Int) = (s.size : Int) - 1 := by omega
  rw [e1] at i1
  simp only [Int.natCast_zero] at i0
  by_cases h3 : chT s 0 = 32
  · have e : rightB s = false := by simp [rightB, h3]
    rw [e] at hK
    simp [vf44, h1, show ¬ (s.size : Int) < 1 by omega, show ¬ (60 : Int) < s.size by omega, i0, h3]
    exact hK _ (HX.refl)
  have h3' : ¬ (chT s 0 : Int) = 32 := by omega
  by_cases h4 : chT s (s.size - 1) = 32
  · have e : rightB s = false := by simp [rightB, h4]
    rw [e] at hK
    simp (disch := omega) [vf44, h1, show ¬ (s.size : Int) < 1 by omega, show ¬ (60 : Int) < s.size by omega, i0, h3', wrap_i64, i1, h4]
    exact hK _ (HX.refl)
  have h4' : ¬ (chT s (s.size - 1) : Int) = 32 := by omega
  simp (disch := omega) [vf44, h1, show ¬ (s.size : Int) < 1 by omega, show ¬ (60 : Int) < s.size by omega, i0, h3', wrap_i64, i1, h4']
  have hr : rightB s = allN (byB s) s.size := by
    simp only [rightB, h3, h4]
    rw [decide_eq_true (by omega)]; rfl
  rw [hr] at hK
  have hb := bytesV (H := H) (s := s)
  have hx : HX H (H ++ [.row (vbytesL s) false]) := HX.push
  generalize V.sl H.length 0 s.size 1 = bv at hb
  generalize H ++ [Blk.row (vbytesL s) false] = H1 at hb hx
  refine wLoop_up s.size (fun i fr L H' => (fr 27 = bv ∧ fr 28 = .int .i64 s.size ∧ fr 29 = .int .i64 i) ∧ H' = H1 ∧ allN (byB s) i = true) ⟨by simp, rfl, rfl⟩ ?_
  rintro i hi fr L H' ⟨⟨f27, f28, f29⟩, e0, hz⟩
  have e0 := e0.symm
  subst e0
  simp [f27, f28, f29]
  refine cond_dec (fun ht => ?_) fun hfl => ?_
  · have ht : i < s.size := by omega
    have hl : i < (bytesN s).length := by rw [bytesN_len]; exact ht
    have hg : vload none L H1 (ept 1 bv i) = some (.int .u8 (chT s i : Nat)) := by rw [hb.load1 hl]; simp only [byC, bytesN_get ht]; rfl
    simp (disch := omega) [f27, f28, f29, hb.at hl, hg]
    refine cond_bool (fun hc => ?_) fun hc => ?_
    · have e : byB s i = false := by simp only [byB, decide_eq_false_iff_not]; simp at hc; omega
      rw [allN_not ht e] at hK
      simp; exact hK _ hx
    · have e : byB s i = true := by simp only [byB, decide_eq_true_eq]; simp at hc; omega
      simp (disch := omega) [f27, f28, f29, wrap_i64, allN, e, hz]
      omega
  have : i = s.size := by omega
  subst this
  rw [hz] at hK
  simp
  exact hK _ hx
theorem ref_Right (hs : s.size ≤ 1000) (hK : K (.bool (rightB s)) H) : VCall tbl lim 46 [.str s] H K := by
  refine VCall_fn tbl_at46 rfl ?_
  by_cases h1 : s.size = 0
  · have e : rightB s = false := by simp [rightB, h1]
    rw [e] at hK
    simp [vf46, h1]
    exact hK
  by_cases h2 : 60 < s.size
  · have e : rightB s = false := by simp [rightB]; omega
    rw [e] at hK
    simp [vf46, h1, show ¬ (s.size : Int) < 1 by omega, show (60 : Int) < s.size by omega]
    exact hK
  have i0 := idxT (s := s) (i := 0) (by omega)
  have i1 := idxT (s := s) (i := s.size - 1) (by omega)
  have e1 : ((s.size - 1 : Nat) : Int) = (s.size : Int) - 1 := by omega
  rw [e1] at i1
  simp only [Int.natCast_zero] at i0
  by_cases h3 : chT s 0 = 32
  · have e : rightB s = false := by simp [rightB, h3]
    rw [e] at hK
    simp [vf46, h1, show ¬ (s.size : Int) < 1 by omega, show ¬ (60 : Int) < s.size by omega, i0, h3]
    exact hK
  have h3' : ¬ (chT s 0 : Int) = 32 := by omega
  by_cases h4 : chT s (s.size - 1) = 32
  · have e : rightB s = false := by simp [rightB, h4]
    rw [e] at hK
    simp (disch := omega) [vf46, h1, show ¬ (s.size : Int) < 1 by omega, show ¬ (60 : Int) < s.size by omega, i0, h3', wrap_i64, i1, h4]
    exact hK
  have h4' : ¬ (chT s (s.size - 1) : Int) = 32 := by omega
  simp (disch := omega) [vf46, h1, show ¬ (s.size : Int) < 1 by omega, show ¬ (60 : Int) < s.size by omega, i0, h3', wrap_i64, i1, h4']
  have hr : rightB s = allN (byB s) s.size := by
    simp only [rightB, h3, h4]
    rw [decide_eq_true (by omega)]; rfl
  rw [hr] at hK
  refine wLoop_up s.size (fun i fr L H' => (fr 0 = .str s ∧ fr 3 = .int .i64 i) ∧ H' = H ∧ allN (byB s) i = true) ⟨by simp, rfl, rfl⟩ ?_
  rintro i hi fr L H' ⟨⟨f0, f3⟩, e0, hz⟩
  have e0 := e0.symm
  subst e0
  simp [f0, f3]
  refine cond_dec (fun ht => ?_) fun hfl => ?_
  · have ht : i < s.size := by omega
    have hg := idxT ht
    by_cases hc1 : chT s i < 32
    · have e : byB s i = false := by simp only [byB, decide_eq_false_iff_not]; omega
      rw [allN_not ht e] at hK
      simp [f0, f3, hg, show (chT s i : Int) < 32 by omega]
      exact hK
    by_cases hc2 : 126 < chT s i
    · have e : byB s i = false := by simp only [byB, decide_eq_false_iff_not]; omega
      rw [allN_not ht e] at hK
      simp [f0, f3, hg, show ¬ (chT s i : Int) < 32 by omega, show (126 : Int) < chT s i by omega]
      exact hK
    have e : byB s i = true := by simp only [byB, decide_eq_true_eq]; omega
    simp (disch := omega) [f0, f3, hg, show ¬ (chT s i : Int) < 32 by omega, show ¬ (126 : Int) < chT s i by omega, wrap_i64, allN, e, hz]
    omega
  have : i = s.size := by omega
  subst this
  rw [hz] at hK
  simp
  exact hK
end
end Go.Proofs.Ytlkoedoannjojaa.Vm
