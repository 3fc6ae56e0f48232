/- Valid, of the program and of the reference. -/
import Derived.Test.YtalejadhccgckaaDoorPkA
namespace Go.Proofs.YtalejadhccgckaaDoor.Vm
open Go
set_option maxRecDepth 100000
set_option linter.unusedSimpArgs false
set_option linter.unusedVariables false
attribute [-simp] List.getD_eq_getElem?_getD

theorem valid_t {H : Hp} {lim : Nat} {s : ByteArray} {K : V → Hp → Prop} (hlim : lim ≤ H.length) (hK : ∀ X, K (.bool (vld s)) (H ++ X)) : VCall tbl lim 22 [.str s] H K := by
  refine VCall_fn tbl_at22 rfl ?_
  simp [vf22]
  refine wLoop_up s.size (fun i fr L H' => (fr 0 = .str s ∧ fr 6 = .it H.length) ∧ L = [] ∧ H' = H ++ [.sit s i] ∧ allN (letB s) i = true ∧ i ≤ s.size) ⟨by simp, rfl, rfl, rfl, by omega⟩ ?_
  rintro i hi fr L H' ⟨⟨f0, f6⟩, rfl, rfl, ha, hle⟩
  by_cases hp : i < s.size
  · have hn := vnext_some (H := H) hlim hp
    have hI := letB_I (s := s) (i := i)
    by_cases hl : letB s i = true
    · have h2 : (Utf8.decode s i).2 = 1 := by rw [letB_dec hl]
      rw [h2] at hn
      rw [hl] at hI
      generalize (Utf8.decode s i).1 = r at hn hI
      have hr : r = 97 ∨ r = 65 ∨ r = 98 ∨ r = 66 := by
        simp only [isLI, Bool.or_eq_true, decide_eq_true_eq] at hI; omega
      have hJ : allN (letB s) (i + 1) = true := by simp only [allN, ha, hl, Bool.and_self]
      rcases hr with rfl | rfl | rfl | rfl <;> simp [f0, f6, hn] <;> exact ⟨hp, hJ, hp⟩
    · have hl : letB s i = false := by simpa using hl
      rw [hl] at hI
      generalize (Utf8.decode s i).2 = w at hn
      generalize (Utf8.decode s i).1 = r at hn hI
      simp only [isLI, Bool.or_eq_false_iff, decide_eq_false_iff_not] at hI
      obtain ⟨⟨⟨n1, n2⟩, n3⟩, n4⟩ := hI
      simp [f0, f6, hn, n1, n2, n3, n4]
      have e : vld s = false := by simp only [vld, allN_not hp hl, Bool.false_and]
      rw [← e]; exact hK _
  · have hn := vnext_end (H := H) hlim hp
    have hi : i = s.size := by omega
    subst hi
    simp [f0, f6, hn]
    have e : decide ((s.size : Int) ≤ 60) = vld s := by
      simp only [vld, ha, Bool.true_and]; exact decide_eq_decide.2 (by omega)
    rw [e]; exact hK _

theorem isLetter_t {H : Hp} {lim : Nat} {n : Nat} {K : V → Hp → Prop} (hK : K (.bool (isL n)) H) : VCall tbl lim 58 [.int .u8 n] H K := by
  refine VCall_fn tbl_at58 rfl ?_
  have a1 : ((n : Int) = 97) = (n = 97) := propext (by omega)
  have a2 : ((n : Int) = 65) = (n = 65) := propext (by omega)
  have a3 : ((n : Int) = 98) = (n = 98) := propext (by omega)
  have a4 : ((n : Int) = 66) = (n = 66) := propext (by omega)
  unfold isL at hK
  by_cases h1 : n = 97
  · simp [vf58, a1, a2, a3, a4, h1] at hK ⊢; exact hK
  by_cases h2 : n = 65
  · simp [vf58, a1, a2, a3, a4, h1, h2] at hK ⊢; exact hK
  by_cases h3 : n = 98
  · simp [vf58, a1, a2, a3, a4, h1, h2, h3] at hK ⊢; exact hK
  by_cases h4 : n = 66
  · simp [vf58, a1, a2, a3, a4, h1, h2, h3, h4] at hK ⊢; exact hK
  simp [vf58, a1, a2, a3, a4, h1, h2, h3, h4] at hK ⊢; exact hK

theorem valid_r {H : Hp} {lim : Nat} {s : ByteArray} {K : V → Hp → Prop} (hs : s.size ≤ 1000000) (hK : K (.bool (vld s)) H) : VCall tbl lim 23 [.str s] H K := by
  refine VCall_fn tbl_at23 rfl ?_
  simp [vf23]
  refine wLoop_up s.size (fun i fr L H' => (fr 0 = .str s ∧ fr 3 = .int .i64 i) ∧ L = [] ∧ H' = H ∧ allN (letB s) i = true ∧ i ≤ s.size) ⟨by simp, rfl, rfl, rfl, by omega⟩ ?_
  rintro i hi fr L H' ⟨⟨f0, f3⟩, rfl, rfl, ha, hle⟩
  by_cases hp : i < s.size
  · have hp' : ((i : Int) < (s.size : Int)) = True := eq_true (by omega)
    simp [f0, f3, hp', idxT hp]
    refine isLetter_t ?_
    by_cases hl : letB s i = true
    · have hl' : isL (chT s i) = true := hl
      have hJ : allN (letB s) (i + 1) = true := by simp only [allN, ha, hl, Bool.and_self]
      simp (disch := omega) [f0, f3, hl', wrap_i64]
      exact ⟨hp, hJ, hp⟩
    · have hl : letB s i = false := by simpa using hl
      have hl' : isL (chT s i) = false := hl
      simp [f0, f3, hl']
      have e : vld s = false := by simp only [vld, allN_not hp hl, Bool.false_and]
      rw [← e]; exact hK
  · have hp' : ((i : Int) < (s.size : Int)) = False := eq_false (by omega)
    have hi : i = s.size := by omega
    subst hi
    simp [f0, f3, hp']
    have e : decide ((s.size : Int) ≤ 60) = vld s := by
      simp only [vld, ha, Bool.true_and]; exact decide_eq_decide.2 (by omega)
    rw [e]; exact hK
end Go.Proofs.YtalejadhccgckaaDoor.Vm
