/- Sums of the first n. -/
import Derived.Test.YtlljkhhdhedajaaVmRec
namespace Go.Proofs.Ytlljkhhdhedajaa.Vm
open Go
set_option maxRecDepth 100000
set_option linter.unusedSimpArgs false
set_option linter.unusedVariables false
attribute [-simp] List.getD_eq_getElem?_getD
/-- the sum of the first n -/
def su (f : Nat → Int) : Nat → Int
  | 0 => 0
  | n + 1 => su f n + f n
theorem su_congr {f g : Nat → Int} : ∀ {n : Nat}, (∀ i, i < n → f i = g i) → su f n = su g n
  | 0, _ => rfl
  | n + 1, h => by simp only [su, su_congr (n := n) fun i hi => h i (by omega), h n (by omega)]
theorem su_le {f g : Nat → Int} : ∀ {n : Nat}, (∀ i, i < n → f i ≤ g i) → su f n ≤ su g n
  | 0, _ => Int.le_refl _
  | n + 1, h => by
    have := su_le (n := n) fun i hi => h i (by omega)
    have := h n (by omega)
    simp only [su]; omega
theorem su_zero {f : Nat → Int} : ∀ {n : Nat}, (∀ i, i < n → f i = 0) → su f n = 0
  | 0, _ => rfl
  | n + 1, h => by simp only [su, su_zero (n := n) fun i hi => h i (by omega), h n (by omega)]; rfl
theorem su_nn {f : Nat → Int} {n : Nat} (h : ∀ i, i < n → 0 ≤ f i) : 0 ≤ su f n := by
  have := su_le (f := fun _ => 0) (g := f) h
  rw [su_zero fun _ _ => rfl] at this; exact this
theorem su_add {f g : Nat → Int} : ∀ {n : Nat}, su (fun i => f i + g i) n = su f n + su g n
  | 0 => rfl
  | n + 1 => by simp only [su, su_add (n := n)]; omega
theorem su_swap {h : Nat → Nat → Int} {m : Nat} : ∀ {n : Nat}, su (fun w => su (fun l => h w l) m) n = su (fun l => su (fun w => h w l) n) m
  | 0 => (su_zero fun _ _ => rfl).symm
  | n + 1 => by
    simp only [su, su_swap (n := n)]
    rw [← su_add]
/-- one changes -/
theorem su_upd {f : Nat → Int} {k : Nat} {x : Int} : ∀ {n : Nat}, su (fun i => if i = k then x else f i) n = su f n + if k < n then x - f k else 0
  | 0 => by simp [su]
  | n + 1 => by
    have ih := su_upd (f := f) (k := k) (x := x) (n := n)
    simp only [su, ih]
    by_cases e : n = k
    · subst e; rw [if_pos rfl, if_neg (by omega), if_pos (by omega)]; omega
    · rw [if_neg e]
      by_cases e2 : k < n
      · rw [if_pos e2, if_pos (by omega)]; omega
      · rw [if_neg e2, if_neg (by omega)]; omega
theorem su_one {f : Nat → Int} : ∀ {n k : Nat}, (∀ i, i < n → 0 ≤ f i) → k < n → f k ≤ su f n
  | n + 1, k, h, hk => by
    have nn := su_nn (f := f) (n := n) fun i hi => h i (by omega)
    have := h n (by omega)
    simp only [su]
    by_cases e : k = n
    · subst e; omega
    · have := su_one (n := n) (k := k) (fun i hi => h i (by omega)) (by omega)
      omega
end Go.Proofs.Ytlljkhhdhedajaa.Vm
