/- Fields of directions over the machine: two side by side, parts (FlowBesides). -/
import Derived.Test.YtjchpgkibhdoiaaFlH
namespace Go.Proofs.Ytjchpgkibhdoiaa.Vm
open Go
set_option maxRecDepth 100000
set_option linter.unusedSimpArgs false
set_option linter.unusedVariables false
attribute [-simp] List.getD_eq_getElem?_getD

/-! rows, one after another -/
def catR (f : Nat → List Int) : Nat → List Int
  | 0 => []
  | n + 1 => catR f n ++ f n
theorem catR_len {f : Nat → List Int} {k : Nat} (hf : ∀ i, (f i).length = k) : ∀ n, (catR f n).length = n * k
  | 0 => by simp [catR]
  | n + 1 => by simp only [catR, List.length_append, catR_len hf n, hf]; rw [Nat.add_mul]; omega
theorem catR_congr {f g : Nat → List Int} : ∀ {n}, (∀ i, i < n → f i = g i) → catR f n = catR g n
  | 0, _ => rfl
  | n + 1, h => by simp only [catR]; rw [catR_congr fun i hi => h i (by omega), h n (by omega)]
theorem catR_row {f : Nat → List Int} {k : Nat} : ∀ {n} (hf : ∀ i, i < n → (f i).length = k) {i}, i < n → ((catR f n).drop (i * k)).take k = f i ∧ (catR f n).length = n * k
  | 0, _, i, hi => by omega
  | n + 1, hf, i, hi => by
    have hl : (catR f n).length = n * k := by
      match n with
      | 0 => simp [catR]
      | n + 1 => exact (catR_row (n := n + 1) (fun i hi => hf i (by omega)) (i := 0) (by omega)).2
    refine ⟨?_, by simp only [catR, List.length_append, hl, hf n (by omega)]; rw [Nat.add_mul]; omega⟩
    simp only [catR]
    by_cases e : i = n
    · subst e
      rw [List.drop_append, List.drop_of_length_le (by omega), List.nil_append, hl, Nat.sub_self, List.drop_zero, List.take_of_length_le (by rw [hf i (by omega)]; omega)]
    · have := (catR_row (n := n) (fun i hi => hf i (by omega)) (i := i) (by omega)).1
      have hm : (i + 1) * k ≤ n * k := Nat.mul_le_mul_right _ (by omega)
      rw [Nat.add_mul, Nat.one_mul] at hm
      rw [List.drop_append_of_le_length (by omega), List.take_append_of_le_length (by simp; omega), this]
theorem catR_all {D : List Int} {k : Nat} : ∀ n, n * k ≤ D.length → catR (fun y => (D.drop (y * k)).take k) n = D.take (n * k)
  | 0, _ => by simp [catR]
  | n + 1, h => by
    rw [Nat.add_mul, Nat.one_mul] at h ⊢
    simp only [catR]
    rw [catR_all n (by omega), List.take_add]

def shE (d : Int) (c : Int) (e : Ed) : Ed := ⟨e.x + d, e.y + c, e.u⟩
/-- side by side -/
def besD (w1 w2 : Nat) (D1 D2 : List Int) (y : Nat) : List Int := (D1.drop (y * w1)).take w1 ++ (D2.drop (y * w2)).take w2
/-- a part: its partings -/
def cropP (w q : Int) (x y : Int) (P : List Ed) : Nat → List Ed
  | 0 => []
  | i + 1 => cropP w q x y P i ++ (if isEB w q ((P.getD i default).x - x) ((P.getD i default).y - y) (P.getD i default).u = true then [⟨(P.getD i default).x - x, (P.getD i default).y - y, (P.getD i default).u⟩] else [])
theorem cropP_len {w q x y : Int} {P : List Ed} : ∀ i, (cropP w q x y P i).length ≤ i
  | 0 => by simp [cropP]
  | i + 1 => by
    have := cropP_len (w := w) (q := q) (x := x) (y := y) (P := P) i
    simp only [cropP, List.length_append]; split <;> simp <;> omega
theorem cropP_all {w q x y : Int} {P : List Ed} (h : ∀ i, i < P.length → isEB w q ((P.getD i default).x - x) ((P.getD i default).y - y) (P.getD i default).u = true) : ∀ i, i ≤ P.length → cropP w q x y P i = (P.take i).map (shE (-x) (-y))
  | 0, _ => by simp [cropP]
  | i + 1, hi => by
    have e : P.take (i + 1) = P.take i ++ [P.getD i default] := by
      rw [List.take_add_one, List.getElem?_eq_getElem (by omega)]; simp [List.getD_eq_getElem?_getD, show i < P.length by omega]
    simp only [cropP, h i (by omega), if_true]
    rw [cropP_all h i (by omega), e, List.map_append]
    simp [shE, Int.sub_eq_add_neg]
theorem cropP_none {w q x y : Int} {P : List Ed} (h : ∀ i, i < P.length → isEB w q ((P.getD i default).x - x) ((P.getD i default).y - y) (P.getD i default).u = false) : ∀ i, i ≤ P.length → cropP w q x y P i = []
  | 0, _ => by simp [cropP]
  | i + 1, hi => by simp only [cropP, h i (by omega)]; rw [cropP_none h i (by omega)]; simp
theorem cropP_app {w q x y : Int} {P R : List Ed} : ∀ j, j ≤ R.length → cropP w q x y (P ++ R) (P.length + j) = cropP w q x y P P.length ++ cropP w q x y R j
  | 0, _ => by
    rw [Nat.add_zero]
    have : ∀ i, i ≤ P.length → cropP w q x y (P ++ R) i = cropP w q x y P i := by
      intro i
      induction i with
      | zero => intro _; rfl
      | succ i ih =>
        intro hi
        have e : (P ++ R).getD i default = P.getD i default := by simp only [List.getD_eq_getElem?_getD]; rw [List.getElem?_append_left (by omega)]
        simp only [cropP, e]; rw [ih (by omega)]
    rw [this _ (Nat.le_refl _)]; simp [cropP]
  | j + 1, hj => by
    have e : (P ++ R).getD (P.length + j) default = R.getD j default := by simp only [List.getD_eq_getElem?_getD]; rw [List.getElem?_append_right (by omega)]; congr 2; omega
    rw [← Nat.add_assoc]
    simp only [cropP, e]
    rw [cropP_app j (by omega), List.append_assoc]
theorem shE_0 {l : List Ed} : l.map (shE (-0) (-0)) = l := by
  have : shE (-0) (-0) = id := by funext e; cases e; simp [shE]
  rw [this]; simp
end Go.Proofs.Ytjchpgkibhdoiaa.Vm
