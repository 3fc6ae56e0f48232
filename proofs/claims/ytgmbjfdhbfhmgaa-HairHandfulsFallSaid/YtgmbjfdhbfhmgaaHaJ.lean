/- Hairs: sums, trimming and opening again; more laws. -/
import Derived.Test.YtgmbjfdhbfhmgaaHaI
namespace Go.Proofs.Ytgmbjfdhbfhmgaa.Vm
open Go
set_option maxRecDepth 100000
set_option linter.unusedSimpArgs false
set_option linter.unusedVariables false
attribute [-simp] List.getD_eq_getElem?_getD

/-! trimmed lists, opened again -/
theorem lastN_spec (f : Nat → Int) : ∀ k n, lastN f k < n → n ≤ k → f n = 0
  | 0, n, h1, h2 => by omega
  | k + 1, n, h1, h2 => by
    simp only [lastN] at h1
    split at h1
    · rename_i hz
      by_cases e : n = k + 1
      · subst e; exact hz
      · exact lastN_spec f k n h1 (by omega)
    · omega
theorem side_at {f : HF} {w n : Nat} (h1 : 1 ≤ n) (h2 : n ≤ 24) : (sideF f w).getD (n - 1) 0 = f w n := by
  unfold sideF
  by_cases h : n ≤ lastN (f w) 24
  · rw [listN, getD_map_range (by omega)]; congr 1; omega
  · rw [getD_big (by simp; omega), lastN_spec (f w) 24 n (by omega) h2]
theorem side_mem {f : HF} {w : Nat} {P : Int → Prop} (h : ∀ n, 1 ≤ n → n ≤ 24 → P (f w n)) : ∀ x ∈ sideF f w, P x := by
  intro x hx
  obtain ⟨i, hi, rfl⟩ := List.mem_map.1 hx
  have hi : i < lastN (f w) 24 := by simpa using hi
  have := lastN_le (f w) 24
  exact h _ (by omega) (by omega)
theorem err_side {f : HF} (hf : ∀ w n, w < 2 → 1 ≤ n → n ≤ 24 → 0 ≤ f w n ∧ f w n ≤ 1000000) : errOf (sideF f 0) (sideF f 1) = 0 := by
  have n0 : anyNeg (sideF f 0) = false := by
    rw [anyNeg, List.any_eq_false]; intro x hx
    have := side_mem (P := fun x => 0 ≤ x) (fun n a b => (hf 0 n (by omega) a b).1) x hx
    simpa using this
  have n1 : anyNeg (sideF f 1) = false := by
    rw [anyNeg, List.any_eq_false]; intro x hx
    have := side_mem (P := fun x => 0 ≤ x) (fun n a b => (hf 1 n (by omega) a b).1) x hx
    simpa using this
  have b0 : anyBig (sideF f 0) = false := by
    rw [anyBig, List.any_eq_false]; intro x hx
    have := side_mem (P := fun x => x ≤ 1000000) (fun n a b => (hf 0 n (by omega) a b).2) x hx
    simpa using this
  have b1 : anyBig (sideF f 1) = false := by
    rw [anyBig, List.any_eq_false]; intro x hx
    have := side_mem (P := fun x => x ≤ 1000000) (fun n a b => (hf 1 n (by omega) a b).2) x hx
    simpa using this
  have l0 := listN_len24 (f := f) (w := 0)
  have l1 := listN_len24 (f := f) (w := 1)
  unfold errOf
  rw [if_neg (by omega), if_neg (by simp [n0, n1]), if_neg (by simp [b0, b1])]
theorem op_side {f : HF} (hf : ∀ w n, w < 2 → 1 ≤ n → n ≤ 24 → 0 ≤ f w n ∧ f w n ≤ 1000000) {w n : Nat} (hw : w < 2) (h1 : 1 ≤ n) (h2 : n ≤ 24) : op (sideF f 0) (sideF f 1) w n = f w n := by
  unfold op
  rw [if_pos (err_side hf)]
  rcases (show w = 0 ∨ w = 1 by omega) with rfl | rfl
  · rw [if_pos rfl]; exact side_at h1 h2
  · rw [if_neg (by omega)]; exact side_at h1 h2
theorem bigN_congr {f g : HF} (h : ∀ w n, w < 2 → 1 ≤ n → n ≤ 24 → f w n = g w n) : ∀ {k : Nat}, k ≤ 24 → bigN f k = bigN g k
  | 0, _ => rfl
  | k + 1, hk => by
    simp only [bigN, bigN_congr h (k := k) (by omega), h 0 (k + 1) (by omega) (by omega) hk, h 1 (k + 1) (by omega) (by omega) hk]
theorem outP_congr {f g : HF} (h : ∀ w n, w < 2 → 1 ≤ n → n ≤ 24 → f w n = g w n) : outP f = outP g := by
  have e0 : sideF f 0 = sideF g 0 := sideF_congr fun n a b => h 0 n (by omega) a b
  have e1 : sideF f 1 = sideF g 1 := sideF_congr fun n a b => h 1 n (by omega) a b
  simp only [outP, outR, outW, outE, bigN_congr h (Nat.le_refl _), e0, e1]
theorem abv_congr {f g : HF} (h : ∀ w n, w < 2 → 1 ≤ n → n ≤ 24 → f w n = g w n) : ∀ {k : Nat}, k ≤ 24 → abv f k = abv g k
  | 0, _ => rfl
  | k + 1, hk => by
    simp only [abv, abv_congr h (k := k) (by omega), h 0 (24 - k) (by omega) (by omega) (by omega), h 1 (24 - k) (by omega) (by omega) (by omega)]
theorem inF_congr {f g : HF} (h : ∀ w n, w < 2 → 1 ≤ n → n ≤ 24 → f w n = g w n) : inF f = inF g := by
  simp only [inF, mk48_congr h]
theorem same_of {r w r' w' : List Int} (h1 : errOf r w = 0) (h2 : errOf r' w' = 0) (h : ∀ a n, a < 2 → 1 ≤ n → n ≤ 24 → op r w a n = op r' w' a n) : sameB r w r' w' = true ∧ er2 r w r' w' = 0 := by
  have e : er2 r w r' w' = 0 := by simp [er2, h1, h2]
  exact ⟨by simp [sameB, e, mk48_congr h], e⟩
/-- parts that are mixed again -/
theorem mix_parts {f g h : HF} (hf : ∀ w n, w < 2 → 1 ≤ n → n ≤ 24 → 0 ≤ f w n ∧ f w n ≤ 1000000) (hg : ∀ w n, w < 2 → 1 ≤ n → n ≤ 24 → 0 ≤ g w n ∧ g w n ≤ 1000000) (hh : ∀ w n, h w n ≤ 1000000) (hs : ∀ w n, w < 2 → 1 ≤ n → n ≤ 24 → f w n + g w n = h w n) :
    mixP (sideF f 0) (sideF f 1) (sideF g 0) (sideF g 1) = (sideF h 0, sideF h 1, 0) := by
  have e : er2 (sideF f 0) (sideF f 1) (sideF g 0) (sideF g 1) = 0 := by simp [er2, err_side hf, err_side hg]
  rw [mixP, if_pos e, ← outP_small hh]
  refine outP_congr fun w n hw h1 h2 => ?_
  simp only [addF]
  rw [op_side hf hw h1 h2, op_side hg hw h1 h2]
  exact hs w n hw h1 h2

/-! sums -/
def inS (f : HF) : Nat → Int
  | 0 => 0
  | k + 1 => inS f k + (24 - (k : Int)) * (f 0 (24 - k) + f 1 (24 - k))
theorem inS_mk {f : HF} : ∀ {k : Nat}, k ≤ 24 → inRest (mk48 f) k = inS f k
  | 0, _ => rfl
  | k + 1, h => by
    have e1 : 47 - k = 24 + (23 - k) := by omega
    have e2 : 23 - k + 1 = 24 - k := by omega
    simp only [inRest, inS, inS_mk (k := k) (by omega)]
    rw [mk48_0 (by omega), e1, mk48_1 (by omega), e2]; omega
theorem inF_S {f : HF} : inF f = inS f 24 := inS_mk (by omega)
theorem abv_add {f g : HF} : ∀ k, abv (addF f g) k = abv f k + abv g k
  | 0 => rfl
  | k + 1 => by simp only [abv, abv_add k, addF]; omega
theorem inS_add {f g : HF} : ∀ k, inS (addF f g) k = inS f k + inS g k
  | 0 => rfl
  | k + 1 => by
    simp only [inS, inS_add k, addF]
    have : (24 - (k : Int)) * (f 0 (24 - k) + g 0 (24 - k) + (f 1 (24 - k) + g 1 (24 - k))) = (24 - (k : Int)) * (f 0 (24 - k) + f 1 (24 - k)) + (24 - (k : Int)) * (g 0 (24 - k) + g 1 (24 - k)) := by
      rw [← Int.mul_add]; congr 1; omega
    omega
/-- hairs of one length -/
def atF (a : Nat) (t : Nat → Int) : HF := fun w m => if m = a then t w else 0
theorem abv_atF {a : Nat} {t : Nat → Int} (h1 : 1 ≤ a) (h2 : a ≤ 24) : ∀ k, k ≤ 24 → abv (atF a t) k = if 24 < a + k then t 0 + t 1 else 0
  | 0, _ => by rw [if_neg (by omega)]; rfl
  | k + 1, h => by
    simp only [abv, abv_atF h1 h2 k (by omega), atF]
    by_cases e : 24 - k = a
    · rw [if_neg (by omega), if_pos e, if_pos e, if_pos (by omega)]; omega
    · rw [if_neg e, if_neg e]
      by_cases c : 24 < a + k
      · rw [if_pos c, if_pos (by omega)]; omega
      · rw [if_neg c, if_neg (by omega)]; omega
theorem inS_atF {a : Nat} {t : Nat → Int} (h1 : 1 ≤ a) (h2 : a ≤ 24) : ∀ k, k ≤ 24 → inS (atF a t) k = if 24 < a + k then a * (t 0 + t 1) else 0
  | 0, _ => by rw [if_neg (by omega)]; rfl
  | k + 1, h => by
    simp only [inS, inS_atF h1 h2 k (by omega), atF]
    by_cases e : 24 - k = a
    · have e2 : (24 : Int) - k = a := by omega
      rw [if_neg (by omega), if_pos e, if_pos e, if_pos (by omega), e2]; omega
    · rw [if_neg e, if_neg e]
      by_cases c : 24 < a + k
      · rw [if_pos c, if_pos (by omega)]; simp
      · rw [if_neg c, if_neg (by omega)]; simp
theorem snapF_eq {f : HF} {l a : Nat} {n : Int} : snapF f l a n = addF (addF (addF f (atF l fun w => - snapT f l n w)) (atF a (snapT f l n))) (atF (l - a) (snapT f l n)) := by
  funext w m
  simp only [snapF, addF, atF]
  split <;> omega
theorem snap_sums {f : HF} {l a : Nat} {n : Int} (hf : ∀ w n, 0 ≤ f w n ∧ f w n ≤ 1000000) (h : 2 ≤ l ∧ l ≤ 24 ∧ 1 ≤ a ∧ a < l) (hn : 0 ≤ n) (hle : n ≤ f 0 l + f 1 l) : cntF (snapF f l a n) = cntF f + n ∧ inF (snapF f l a n) = inF f := by
  have hT : snapT f l n 0 + snapT f l n 1 = n := by
    have := hf 0 l
    have := hf 1 l
    simp [snapT]; omega
  have e : snapF f l a n = addF (addF (addF f (atF l fun w => - snapT f l n w)) (atF a (snapT f l n))) (atF (l - a) (snapT f l n)) := snapF_eq
  constructor
  · simp only [cntF]
    rw [e, abv_add, abv_add, abv_add, abv_atF (by omega) (by omega) 24 (by omega), abv_atF (by omega) (by omega) 24 (by omega), abv_atF (by omega) (by omega) 24 (by omega), if_pos (by omega), if_pos (by omega), if_pos (by omega)]
    omega
  · rw [inF_S, inF_S, e, inS_add, inS_add, inS_add, inS_atF (by omega) (by omega) 24 (by omega), inS_atF (by omega) (by omega) 24 (by omega), inS_atF (by omega) (by omega) 24 (by omega), if_pos (by omega), if_pos (by omega), if_pos (by omega), hT]
    have e1 : - snapT f l n 0 + - snapT f l n 1 = - n := by omega
    rw [e1]
    have e2 : ((l - a : Nat) : Int) = l - a := by omega
    rw [e2, Int.sub_mul, Int.mul_neg]
    omega
/-- the inches are the sum of all counts of at least a length -/
def sumA (f : HF) : Nat → Int
  | 0 => 0
  | k + 1 => sumA f k + abv f (k + 1)
theorem inS_sumA {f : HF} : ∀ k : Nat, inS f k = sumA f k + (24 - (k : Int)) * abv f k
  | 0 => by simp [inS, sumA, abv]
  | k + 1 => by
    have ih := inS_sumA (f := f) k
    have e : (24 : Int) - ((k + 1 : Nat) : Int) = (24 - (k : Int)) - 1 := by omega
    simp only [inS, sumA, ih, abv, e, Int.sub_mul, Int.mul_add]
    omega
theorem inF_sumA {f : HF} : inF f = sumA f 24 := by
  rw [inF_S, inS_sumA]; simp
theorem moreN_iff {f g : HF} : ∀ k, moreN f g k = true ↔ ∃ i, i < k ∧ abv g (24 - i) * cntF f < abv f (24 - i) * cntF g
  | 0 => by simp [moreN]
  | k + 1 => by
    simp only [moreN, Bool.or_eq_true, moreN_iff k, decide_eq_true_eq]
    constructor
    · rintro (⟨i, h1, h2⟩ | h)
      · exact ⟨i, by omega, h2⟩
      · exact ⟨k, by omega, h⟩
    · rintro ⟨i, h1, h2⟩
      by_cases e : i = k
      · subst e; exact Or.inr h2
      · exact Or.inl ⟨i, by omega, h2⟩
theorem sum_cmp {f g : HF} {B D : Int} : ∀ k : Nat, (∀ j, 1 ≤ j → j ≤ k → abv g j * B ≤ abv f j * D) → sumA g k * B ≤ sumA f k * D ∧ ((∃ j, 1 ≤ j ∧ j ≤ k ∧ abv g j * B < abv f j * D) → sumA g k * B < sumA f k * D)
  | 0, _ => by simp [sumA]; intro x h1 h2; omega
  | k + 1, h => by
    obtain ⟨h1, h2⟩ := sum_cmp (f := f) (g := g) (B := B) (D := D) k fun j a b => h j a (by omega)
    have h3 := h (k + 1) (by omega) (by omega)
    simp only [sumA, Int.add_mul]
    refine ⟨by omega, ?_⟩
    rintro ⟨j, a, b, c⟩
    by_cases e : j = k + 1
    · subst e; omega
    · have := h2 ⟨j, a, by omega, c⟩; omega
theorem cmp_means {f g : HF} : (moreN g f 24 = false → sumA g 24 * cntF f ≤ sumA f 24 * cntF g) ∧ (moreN f g 24 = true → moreN g f 24 = false → sumA g 24 * cntF f < sumA f 24 * cntF g) := by
  have key : moreN g f 24 = false → ∀ j, 1 ≤ j → j ≤ 24 → abv g j * cntF f ≤ abv f j * cntF g := by
    intro h j h1 h2
    have : ¬ (∃ i, i < 24 ∧ abv f (24 - i) * cntF g < abv g (24 - i) * cntF f) := by
      rw [← moreN_iff]; simp [h]
    by_cases c : abv g j * cntF f ≤ abv f j * cntF g
    · exact c
    · exact absurd ⟨24 - j, by omega, by rw [show 24 - (24 - j) = j by omega]; omega⟩ this
  refine ⟨fun h => (sum_cmp 24 (key h)).1, fun h1 h => (sum_cmp 24 (key h)).2 ?_⟩
  obtain ⟨i, h2, h3⟩ := (moreN_iff 24).1 h1
  exact ⟨24 - i, by omega, by omega, h3⟩
end Go.Proofs.Ytgmbjfdhbfhmgaa.Vm
