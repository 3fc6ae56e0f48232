/- Rectangles of places and squares, pure: the way around tells what is inside. -/
import Derived.Test.YtjchpgkibhdoiaaDoorFmD
namespace Go.Proofs.YtjchpgkibhdoiaaDoor.Vm
open Go
set_option maxRecDepth 100000
set_option linter.unusedSimpArgs false
set_option linter.unusedVariables false
attribute [-simp] List.getD_eq_getElem?_getD
theorem wkS_su {w : Nat} {D : List Int} {P : List Ed} {l : List Pl} {t : Nat → Int} : ∀ {n : Nat}, (∀ i, i < n → stP w D P (l.getD i default) (l.getD (i + 1) default) = some (t i)) → wkS w D P l n = some (su t n)
  | 0, _ => rfl
  | n + 1, h => by
    have ih := wkS_su (n := n) fun i hi => h i (by omega)
    simp only [wkS, ih, h n (by omega), su]
theorem su_app {f : Nat → Int} {a : Nat} : ∀ {b : Nat}, su f (a + b) = su f a + su (fun i => f (a + i)) b
  | 0 => by simp [su]
  | b + 1 => by
    have ih := su_app (f := f) (a := a) (b := b)
    rw [← Nat.add_assoc]
    simp only [su, ih]; omega
theorem su_tele {g : Nat → Int} : ∀ {n : Nat}, su (fun i => g (i + 1) - g i) n = g n - g 0
  | 0 => by simp [su]
  | n + 1 => by
    have ih := su_tele (g := g) (n := n)
    simp only [su, ih]; omega
theorem su_neg {f : Nat → Int} : ∀ {n : Nat}, su (fun i => - f i) n = - su f n
  | 0 => rfl
  | n + 1 => by simp only [su, su_neg (n := n)]; omega
theorem su_mul4 {f : Nat → Int} : ∀ {n : Nat}, su (fun i => 4 * f i) n = 4 * su f n
  | 0 => rfl
  | n + 1 => by simp only [su, su_mul4 (n := n)]; omega
theorem su_grid {f : Nat → Int} {m : Nat} : ∀ {n : Nat}, su f (n * m) = su (fun v => su (fun u => f (v * m + u)) m) n
  | 0 => by simp [su]
  | n + 1 => by
    rw [Nat.add_mul, Nat.one_mul, su_app, su_grid (n := n)]; rfl
theorem sum_range {f : Nat → Int} : ∀ {n : Nat}, ((List.range n).map f).sum = su f n
  | 0 => rfl
  | n + 1 => by rw [List.range_succ, List.map_append, List.sum_append, sum_range]; simp [su]
/-- a rectangle's places, around -/
def rectP (X Y : Int) (m n : Nat) (i : Nat) : Pl :=
  if i < m then ⟨X + i, Y⟩ else if i < m + n - 1 then ⟨X + (m - 1), Y + (i - m + 1)⟩
  else if i < 2 * m + n - 2 then ⟨X + (m - 2 - (i - (m + n - 1))), Y + (n - 1)⟩ else ⟨X, Y + (n - 2 - (i - (2 * m + n - 2)))⟩
def rectL (X Y : Int) (m n : Nat) (k : Nat) : List Pl := (List.range k).map (rectP X Y m n)
theorem rectL_len {X Y : Int} {m n k : Nat} : (rectL X Y m n k).length = k := by simp [rectL]
theorem rectL_at {X Y : Int} {m n k i : Nat} (h : i < k) : (rectL X Y m n k).getD i default = rectP X Y m n i := by
  simp [rectL, List.getD_eq_getElem?_getD, h]
theorem rectL_succ {X Y : Int} {m n k : Nat} : rectL X Y m n (k + 1) = rectL X Y m n k ++ [rectP X Y m n k] := by simp [rectL, List.range_succ]
/-- what turns on the way around -/
def rectT (c : Int → Int → Int → Int) (X Y : Int) (m n : Nat) (i : Nat) : Int :=
  if i < m - 1 then c (X + i) Y 0 else if i < m - 1 + (n - 1) then c (X + (m - 1)) (Y + (i - (m - 1))) 1
  else if i < m - 1 + (n - 1) + (m - 1) then - c (X + (m - 2 - (i - (m - 1 + (n - 1))))) (Y + (n - 1)) 0 else - c X (Y + (n - 2 - (i - (m - 1 + (n - 1) + (m - 1))))) 1
theorem stE_e {x y : Int} : stE ⟨x, y⟩ ⟨x + 1, y⟩ = some (⟨x, y, 0⟩, 1) := by
  unfold stE; simp only; rw [if_pos (by omega)]
theorem stE_n {x y : Int} : stE ⟨x, y⟩ ⟨x, y + 1⟩ = some (⟨x, y, 1⟩, 1) := by
  unfold stE; simp only; rw [if_neg (by omega), if_pos (by omega)]
theorem stE_w {x y : Int} : stE ⟨x + 1, y⟩ ⟨x, y⟩ = some (⟨x, y, 0⟩, -1) := by
  unfold stE; simp only; rw [if_neg (by omega), if_neg (by omega), if_pos (by omega)]
theorem stE_s {x y : Int} : stE ⟨x, y + 1⟩ ⟨x, y⟩ = some (⟨x, y, 1⟩, -1) := by
  unfold stE; simp only; rw [if_neg (by omega), if_neg (by omega), if_neg (by omega), if_pos (by omega)]
theorem pl_mk {a b c d : Int} (h1 : a = c) (h2 : b = d) : (⟨a, b⟩ : Pl) = ⟨c, d⟩ := by rw [h1, h2]
theorem rect_step {w : Nat} {D : List Int} {P : List Ed} {X Y : Int} {m n : Nat} (hm : 2 ≤ m) (hn : 2 ≤ n) {i : Nat} (hi : i < 2 * m + 2 * n - 4) :
    stP w D P (rectP X Y m n i) (rectP X Y m n (i + 1)) = some (rectT (tnP w D P) X Y m n i) := by
  have key : ∀ a b e s, rectP X Y m n i = a → rectP X Y m n (i + 1) = b → stE a b = some (e, s) → s * tnP w D P e.x e.y e.u = rectT (tnP w D P) X Y m n i → stP w D P (rectP X Y m n i) (rectP X Y m n (i + 1)) = some (rectT (tnP w D P) X Y m n i) := by
    intro a b e s h1 h2 h3 h4
    rw [h1, h2]
    unfold stP
    rw [h3, ← h4]
  by_cases c1 : i < m - 1
  · refine key ⟨X + i, Y⟩ ⟨X + i + 1, Y⟩ _ _ ?_ ?_ stE_e ?_
    · unfold rectP; rw [if_pos (by omega)]
    · unfold rectP; rw [if_pos (by omega)]; exact pl_mk (by omega) rfl
    · unfold rectT; rw [if_pos c1]; simp
  by_cases c2 : i < m - 1 + (n - 1)
  · refine key ⟨X + (m - 1), Y + (i - (m - 1))⟩ ⟨X + (m - 1), Y + (i - (m - 1)) + 1⟩ _ _ ?_ ?_ stE_n ?_
    · unfold rectP
      by_cases e : i < m
      · rw [if_pos e]; exact pl_mk (by omega) (by omega)
      · rw [if_neg e, if_pos (by omega)]; exact pl_mk rfl (by omega)
    · unfold rectP
      rw [if_neg (by omega), if_pos (by omega)]; exact pl_mk rfl (by omega)
    · unfold rectT; rw [if_neg c1, if_pos c2]; simp
  by_cases c3 : i < m - 1 + (n - 1) + (m - 1)
  · refine key ⟨X + (m - 2 - (i - (m - 1 + (n - 1)))) + 1, Y + (n - 1)⟩ ⟨X + (m - 2 - (i - (m - 1 + (n - 1)))), Y + (n - 1)⟩ _ _ ?_ ?_ stE_w ?_
    · unfold rectP
      by_cases e : i < m + n - 1
      · rw [if_neg (by omega), if_pos e]; exact pl_mk (by omega) (by omega)
      · rw [if_neg (by omega), if_neg e, if_pos (by omega)]; exact pl_mk (by omega) rfl
    · unfold rectP
      rw [if_neg (by omega), if_neg (by omega), if_pos (by omega)]; exact pl_mk (by omega) rfl
    · unfold rectT; rw [if_neg c1, if_neg c2, if_pos c3]; simp
  · refine key ⟨X, Y + (n - 2 - (i - (m - 1 + (n - 1) + (m - 1)))) + 1⟩ ⟨X, Y + (n - 2 - (i - (m - 1 + (n - 1) + (m - 1))))⟩ _ _ ?_ ?_ stE_s ?_
    · unfold rectP
      by_cases e : i < 2 * m + n - 2
      · rw [if_neg (by omega), if_neg (by omega), if_pos e]; exact pl_mk (by omega) (by omega)
      · rw [if_neg (by omega), if_neg (by omega), if_neg e]; exact pl_mk rfl (by omega)
    · unfold rectP
      rw [if_neg (by omega), if_neg (by omega), if_neg (by omega)]; exact pl_mk rfl (by omega)
    · unfold rectT; rw [if_neg c1, if_neg c2, if_neg c3]; simp
/-- around a rectangle -/
theorem rect_sum {c : Int → Int → Int → Int} {X Y : Int} {m n : Nat} (hm : 2 ≤ m) (hn : 2 ≤ n) : su (rectT c X Y m n) (2 * m + 2 * n - 4) =
    su (fun u => c (X + u) Y 0) (m - 1) + su (fun v => c (X + (m - 1)) (Y + v) 1) (n - 1) - su (fun u => c (X + u) (Y + (n - 1)) 0) (m - 1) - su (fun v => c X (Y + v) 1) (n - 1) := by
  have e : 2 * m + 2 * n - 4 = (m - 1) + (n - 1) + (m - 1) + (n - 1) := by omega
  rw [e, su_app, su_app, su_app]
  have e1 : su (rectT c X Y m n) (m - 1) = su (fun u => c (X + u) Y 0) (m - 1) := su_congr fun i hi => by unfold rectT; rw [if_pos hi]
  have e2 : su (fun i => rectT c X Y m n (m - 1 + i)) (n - 1) = su (fun v => c (X + (m - 1)) (Y + v) 1) (n - 1) := su_congr fun i hi => by
    unfold rectT; rw [if_neg (by omega), if_pos (by omega)]; congr 1; omega
  have e3 : su (fun i => rectT c X Y m n (m - 1 + (n - 1) + i)) (m - 1) = - su (fun u => c (X + u) (Y + (n - 1)) 0) (m - 1) := by
    rw [← su_neg, ← su_rev]
    refine su_congr fun i hi => ?_
    unfold rectT; rw [if_neg (by omega), if_neg (by omega), if_pos (by omega)]
    congr 2; omega
  have e4 : su (fun i => rectT c X Y m n (m - 1 + (n - 1) + (m - 1) + i)) (n - 1) = - su (fun v => c X (Y + v) 1) (n - 1) := by
    rw [← su_neg, ← su_rev]
    refine su_congr fun i hi => ?_
    unfold rectT; rw [if_neg (by omega), if_neg (by omega), if_neg (by omega)]
    congr 2; omega
  rw [e1, e2, e3, e4]; omega
/-- what is inside of a rectangle -/
theorem rect_in {c : Int → Int → Int → Int} {X Y : Int} {m n : Nat} (hm : 2 ≤ m) (hn : 2 ≤ n) :
    su (fun v => su (fun u => c (X + u) (Y + v) 0 + c (X + u + 1) (Y + v) 1 - c (X + u) (Y + v + 1) 0 - c (X + u) (Y + v) 1) (m - 1)) (n - 1) = su (rectT c X Y m n) (2 * m + 2 * n - 4) := by
  rw [rect_sum hm hn]
  have h1 : su (fun v => su (fun u => c (X + u) (Y + v) 0 + c (X + u + 1) (Y + v) 1 - c (X + u) (Y + v + 1) 0 - c (X + u) (Y + v) 1) (m - 1)) (n - 1) =
      su (fun v => su (fun u => - (c (X + u) (Y + ((v + 1 : Nat) : Int)) 0 - c (X + u) (Y + (v : Int)) 0)) (m - 1) + su (fun u => c (X + ((u + 1 : Nat) : Int)) (Y + v) 1 - c (X + (u : Int)) (Y + v) 1) (m - 1)) (n - 1) := by
    refine su_congr fun v _ => ?_
    rw [← su_add]
    refine su_congr fun u _ => ?_
    have a1 : X + ((u + 1 : Nat) : Int) = X + u + 1 := by omega
    have a2 : Y + ((v + 1 : Nat) : Int) = Y + v + 1 := by omega
    rw [a1, a2]; omega
  rw [h1, su_add, su_swap]
  have h2 : ∀ u : Nat, su (fun v => - (c (X + u) (Y + ((v + 1 : Nat) : Int)) 0 - c (X + u) (Y + (v : Int)) 0)) (n - 1) = c (X + u) Y 0 - c (X + u) (Y + (n - 1)) 0 := by
    intro u
    rw [su_neg, su_tele (g := fun v : Nat => c (X + u) (Y + (v : Int)) 0)]
    have : ((n - 1 : Nat) : Int) = n - 1 := by omega
    rw [this]
    simp only [Int.natCast_zero, Int.add_zero]; omega
  have h3 : ∀ v : Nat, su (fun u => c (X + ((u + 1 : Nat) : Int)) (Y + v) 1 - c (X + (u : Int)) (Y + v) 1) (m - 1) = c (X + (m - 1)) (Y + v) 1 - c X (Y + v) 1 := by
    intro v
    rw [su_tele (g := fun u : Nat => c (X + (u : Int)) (Y + v) 1)]
    have : ((m - 1 : Nat) : Int) = m - 1 := by omega
    rw [this]
    simp only [Int.natCast_zero, Int.add_zero]
  rw [su_congr (g := fun u => c (X + u) Y 0 - c (X + u) (Y + (n - 1)) 0) fun u _ => h2 u, su_congr (g := fun v => c (X + (m - 1)) (Y + v) 1 - c X (Y + v) 1) fun v _ => h3 v]
  have sb : ∀ {f g : Nat → Int} {k : Nat}, su (fun i => f i - g i) k = su f k - su g k := by
    intro f g k
    have : su (fun i => f i - g i) k = su (fun i => f i + - g i) k := su_congr fun i _ => by omega
    rw [this, su_add, su_neg]; omega
  rw [sb, sb]; omega
theorem cropD_at {w q : Nat} {D : List Int} (hdl : D.length = q * w) {X Y m n : Nat} (hx : X + m ≤ w) (hy : Y + n ≤ q) {u v : Nat} (hu : u < m) (hv : v < n) :
    (catR (cropD w D X Y m) n).getD (v * m + u) 0 = D.getD ((Y + v) * w + (X + u)) 0 := by
  have hrow : ∀ i, i < n → (cropD w D X Y m i).length = m := by
    intro i hi
    have h1 : (Y + i + 1) * w ≤ q * w := Nat.mul_le_mul_right _ (by omega)
    rw [Nat.add_mul, Nat.one_mul] at h1
    simp only [cropD, List.length_take, List.length_drop]; omega
  obtain ⟨h1, h2⟩ := catR_row hrow hv
  have h3 : (catR (cropD w D X Y m) n).getD (v * m + u) 0 = (((catR (cropD w D X Y m) n).drop (v * m)).take m).getD u 0 := by
    simp only [List.getD_eq_getElem?_getD, List.getElem?_take, hu, if_true, List.getElem?_drop]
  rw [h3, h1]
  simp only [cropD, List.getD_eq_getElem?_getD, List.getElem?_take, hu, if_true, List.getElem?_drop]
  congr 2; omega
theorem mem_crop {w h x y : Int} {P : List Ed} {e : Ed} : ∀ {n : Nat}, n ≤ P.length → (e ∈ cropP w h x y P n ↔ ∃ i, i < n ∧ isEB w h ((P.getD i default).x - x) ((P.getD i default).y - y) (P.getD i default).u = true ∧ e = ⟨(P.getD i default).x - x, (P.getD i default).y - y, (P.getD i default).u⟩)
  | 0, _ => by simp [cropP]
  | n + 1, hn => by
    have ih := mem_crop (w := w) (h := h) (x := x) (y := y) (P := P) (e := e) (n := n) (by omega)
    have hc : cropP w h x y P (n + 1) = cropP w h x y P n ++ (if isEB w h ((P.getD n default).x - x) ((P.getD n default).y - y) (P.getD n default).u = true then [⟨(P.getD n default).x - x, (P.getD n default).y - y, (P.getD n default).u⟩] else []) := rfl
    rw [hc, List.mem_append, ih]
    constructor
    · rintro (⟨i, h1, h2⟩ | h1)
      · exact ⟨i, by omega, h2⟩
      · split at h1
        · rename_i h2
          simp at h1
          exact ⟨n, by omega, h2, h1⟩
        · simp at h1
    · rintro ⟨i, h1, h2, h3⟩
      by_cases e1 : i = n
      · subst e1
        rw [if_pos h2]; right; simp [h3]
      · exact Or.inl ⟨i, by omega, h2, h3⟩
theorem crop_tn {w q : Nat} {D : List Int} {P : List Ed} (hf : PreF w q D P) {X Y m n : Nat} (hx : X + m ≤ w) (hy : Y + n ≤ q) (hf2 : PreF m n (catR (cropD w D X Y m) n) (cropP m n X Y P P.length)) {u v : Nat} {k : Int}
    (he : isEB m n u v k = true) : tnP m (catR (cropD w D X Y m) n) (cropP m n X Y P P.length) u v k = tnP w D P (X + u) (Y + v) k := by
  have hdl : D.length = q * w := by
    have e : ((q * w : Nat) : Int) = (w : Int) * q := by rw [Nat.mul_comm]; simp
    have := hf.dl; omega
  have hk := isEB_u he
  have hc : cntE (cropP m n X Y P P.length) u v k (cropP m n X Y P P.length).length = cntE P (X + u) (Y + v) k P.length := by
    rw [cnt_mem hf2.asc, cnt_mem hf.asc]
    have : (⟨(u : Int), (v : Int), k⟩ : Ed) ∈ cropP m n X Y P P.length ↔ (⟨(X : Int) + u, (Y : Int) + v, k⟩ : Ed) ∈ P := by
      rw [mem_crop (Nat.le_refl _)]
      constructor
      · rintro ⟨i, h1, h2, h3⟩
        have hm : P.getD i default ∈ P := by simp [List.getD_eq_getElem?_getD, h1]
        generalize P.getD i default = e at *
        simp only [Ed.mk.injEq] at h3
        have : (⟨(X : Int) + u, (Y : Int) + v, k⟩ : Ed) = e := by
          cases e
          simp only [Ed.mk.injEq] at *
          omega
        rw [this]; exact hm
      · intro h
        obtain ⟨i, hi, h2⟩ := List.mem_iff_getElem.1 h
        have hg : P.getD i default = ⟨(X : Int) + u, (Y : Int) + v, k⟩ := by rw [List.getD_eq_getElem?_getD, List.getElem?_eq_getElem hi, h2]; rfl
        refine ⟨i, hi, ?_, ?_⟩
        · rw [hg]; simp only; rw [show (X : Int) + u - X = u by omega, show (Y : Int) + v - Y = v by omega]; exact he
        · rw [hg]; simp only [Ed.mk.injEq]; exact ⟨by omega, by omega, trivial⟩
    by_cases h : (⟨(X : Int) + u, (Y : Int) + v, k⟩ : Ed) ∈ P
    · rw [if_pos h, if_pos (this.2 h)]
    · rw [if_neg h, if_neg (mt this.1 h)]
  have he2 := he
  rw [isEB_iff] at he2
  have at1 : ∀ {a b : Nat}, a < m → b < n → (catR (cropD w D X Y m) n).getD ((b : Int) * m + a).toNat 0 = D.getD (((Y : Int) + b) * w + ((X : Int) + a)).toNat 0 := by
    intro a b ha hb
    have e1 : ((b : Int) * m + a) = ((b * m + a : Nat) : Int) := by simp
    have e2 : (((Y : Int) + b) * w + ((X : Int) + a)) = (((Y + b) * w + (X + a) : Nat) : Int) := by simp
    rw [e1, e2, Int.toNat_natCast, Int.toNat_natCast]
    exact cropD_at hdl hx hy ha hb
  unfold tnP
  rw [hc]
  congr 2
  unfold dlt
  rcases hk with rfl | rfl
  · have z : ¬ (0 : Int) = 1 := by omega
    rw [if_neg z, if_neg z]
    have a1 := at1 (a := u + 1) (b := v) (by omega) (by omega)
    have a0 := at1 (a := u) (b := v) (by omega) (by omega)
    have e1 : (v : Int) * m + u + 1 = (v : Int) * m + ((u + 1 : Nat) : Int) := by omega
    have e2 : ((Y : Int) + v) * w + ((X : Int) + u) + 1 = ((Y : Int) + v) * w + ((X : Int) + ((u + 1 : Nat) : Int)) := by omega
    rw [e1, a1, a0, e2]
  · rw [if_pos rfl, if_pos rfl]
    have a1 := at1 (a := u) (b := v + 1) (by omega) (by omega)
    have a0 := at1 (a := u) (b := v) (by omega) (by omega)
    have e1 : (v : Int) * m + u + m = ((v + 1 : Nat) : Int) * m + (u : Int) := by
      have : ((v + 1 : Nat) : Int) * m = (v : Int) * m + m := by rw [Int.natCast_add, Int.add_mul]; simp
      omega
    have e2 : ((Y : Int) + v) * w + ((X : Int) + u) + w = ((Y : Int) + ((v + 1 : Nat) : Int)) * w + ((X : Int) + u) := by
      have : ((Y : Int) + ((v + 1 : Nat) : Int)) * w = ((Y : Int) + v) * w + w := by
        have : (Y : Int) + ((v + 1 : Nat) : Int) = ((Y : Int) + v) + 1 := by omega
        rw [this, Int.add_mul ((Y : Int) + v), Int.one_mul]
      omega
    rw [e1, a1, a0, e2]
/-- the squares of a rectangle -/
def gridP (X Y : Int) (m : Nat) (k : Nat) : Pl := ⟨X + (k % m : Nat), Y + (k / m : Nat)⟩
def gridL (X Y : Int) (m k : Nat) : List Pl := (List.range k).map (gridP X Y m)
theorem gridL_len {X Y : Int} {m k : Nat} : (gridL X Y m k).length = k := by simp [gridL]
theorem gridL_succ {X Y : Int} {m k : Nat} : gridL X Y m (k + 1) = gridL X Y m k ++ [gridP X Y m k] := by simp [gridL, List.range_succ]
theorem gridL_at {X Y : Int} {m k i : Nat} (h : i < k) : (gridL X Y m k).getD i default = gridP X Y m i := by
  simp [gridL, List.getD_eq_getElem?_getD, h]
theorem gridP_at {X Y : Int} {m u v : Nat} (hu : u < m) : gridP X Y m (v * m + u) = ⟨X + u, Y + v⟩ := by
  unfold gridP; rw [(idx_dm hu).1, (idx_dm hu).2]
theorem gridL_nodup {X Y : Int} {m k : Nat} : (gridL X Y m k).Nodup := by
  refine List.pairwise_map.2 (List.nodup_range.imp fun {a b} hab h => hab ?_)
  unfold gridP at h
  simp only [Pl.mk.injEq] at h
  have h1 : a % m = b % m := by
    have := h.1; generalize a % m = s at *; generalize b % m = t at *; omega
  have h2 : a / m = b / m := by
    have := h.2; generalize a / m = s at *; generalize b / m = t at *; omega
  rw [← Nat.div_add_mod a m, ← Nat.div_add_mod b m, h1, h2]
theorem grid_sum {f : Pl → Int} {X Y : Int} {m n : Nat} : ((gridL X Y m (n * m)).map f).sum = su (fun v => su (fun u => f ⟨X + u, Y + v⟩) m) n := by
  unfold gridL
  rw [List.map_map, sum_range, su_grid]
  refine su_congr fun v _ => su_congr fun u hu => ?_
  show f (gridP X Y m (v * m + u)) = _
  rw [gridP_at hu]
theorem grid_sq {w q : Nat} {X Y m n : Nat} (hx : X + m + 1 ≤ w) (hy : Y + n + 1 ≤ q) : ∀ s ∈ gridL X Y m (n * m), isSB w q s.x s.y = true := by
  intro s hs
  obtain ⟨k, hk, rfl⟩ := List.mem_map.1 hs
  have hk := List.mem_range.1 hk
  have hm : 0 < m := by
    rcases Nat.eq_zero_or_pos m with h | h
    · subst h; simp at hk
    · exact h
  have h1 := Nat.mod_lt k hm
  have h2 : k / m < n := Nat.div_lt_of_lt_mul (by rw [Nat.mul_comm]; exact hk)
  have key : ∀ a b : Nat, a < m → b < n → isSB w q ((X : Int) + a) ((Y : Int) + b) = true := by
    intro a b h1 h2
    simp only [isSB, decide_eq_true_eq]; omega
  exact key _ _ h1 h2
theorem allN_ofw {f : Nat → Bool} : ∀ {n : Nat}, (∀ i, i < n → f i = true) → allN f n = true
  | 0, _ => rfl
  | n + 1, h => by simp only [allN, allN_ofw (n := n) fun i hi => h i (by omega), h n (by omega), Bool.and_self]
theorem okw_wkP {W Q : Int} {D : List Int} {P : List Ed} {l : List Pl} {s : Int} (h1 : validP W Q D P = 0) (h2 : l.length ≤ 1000) (h3 : allN (inOk W Q l) l.length = true) (h4 : wkS W.toNat D P l (l.length - 1) = some s) : wkP W Q D P l = (s, 0) := by
  unfold wkP
  rw [if_pos h1, if_neg (by omega), if_neg (by rw [h3]; simp)]
  simp only [h4]
/-- the grid is a region -/
theorem grid_reg {w q : Nat} {D : List Int} {P : List Ed} (hv : validP w q D P = 0) {X Y m n : Nat} (hm : 1 ≤ m) (hn : 1 ≤ n) (hx : X + m ≤ w) (hy : Y + n ≤ q) : regE w q D P (gridL X Y (m - 1) ((n - 1) * (m - 1))) = 0 := by
  have hs := grid_sq (w := w) (q := q) (X := X) (Y := Y) (m := m - 1) (n := n - 1) (by omega) (by omega)
  have nd := gridL_nodup (X := (X : Int)) (Y := (Y : Int)) (m := m - 1) (k := (n - 1) * (m - 1))
  generalize gridL (X : Int) (Y : Int) (m - 1) ((n - 1) * (m - 1)) = S at *
  unfold regE
  rw [if_neg (by rw [hv]; simp), if_neg, if_neg]
  · rw [allN_ofw fun i hi => ?_]
    · simp
    · simp only [newOk, Bool.not_eq_true', decide_eq_false_iff_not, List.getD_eq_getElem?_getD, List.getElem?_eq_getElem hi, Option.getD_some]
      intro h
      obtain ⟨j, hj, e⟩ := List.mem_take_iff_getElem.1 h
      have := List.pairwise_iff_getElem.1 nd j i (by omega) hi (by omega)
      exact this e
  · rw [allN_ofw fun i hi => ?_]
    · simp
    · exact hs _ (by simp [List.getD_eq_getElem?_getD, hi])
/-- the sum of the indices of a part -/
theorem grid_tot {w q : Nat} {D : List Int} {P : List Ed} (hf : PreF w q D P) {X Y m n : Nat} (hm : 1 ≤ m) (hn : 1 ≤ n) (hx : X + m ≤ w) (hy : Y + n ≤ q) (hf2 : PreF m n (catR (cropD w D X Y m) n) (cropP m n X Y P P.length)) :
    ((gridL X Y (m - 1) ((n - 1) * (m - 1))).map (idxS w D P)).sum = totP m n (catR (cropD w D X Y m) n) (cropP m n X Y P P.length) := by
  rw [grid_sum]
  unfold totP
  refine su_congr fun v hv => su_congr fun u hu => ?_
  have ct := fun {a b : Nat} {k : Int} (he : isEB m n a b k = true) => crop_tn hf hx hy hf2 he
  unfold idxS
  simp only
  congr 1
  obtain ⟨e0, e1, e2, e3⟩ := isSB_ed (w := m) (q := n) (x := u) (y := v) (by simp [isSB]; omega)
  have a1 : ((u + 1 : Nat) : Int) = (u : Int) + 1 := by omega
  have a2 : ((v + 1 : Nat) : Int) = (v : Int) + 1 := by omega
  have t0 := ct (a := u) (b := v) (k := 0) e0
  have t1 := ct (a := u + 1) (b := v) (k := 1) (by rw [a1]; exact e1)
  have t2 := ct (a := u) (b := v + 1) (k := 0) (by rw [a2]; exact e2)
  have t3 := ct (a := u) (b := v) (k := 1) e3
  rw [a1, ← Int.add_assoc] at t1
  rw [a2, ← Int.add_assoc] at t2
  unfold rndP
  rw [t0, t1, t2, t3]
/-- the way around a part -/
theorem rect_walk {w q : Nat} {D : List Int} {P : List Ed} (hf : PreF w q D P) (hv : validP w q D P = 0) {X Y m n : Nat} (hm : 2 ≤ m) (hn : 2 ≤ n) (hx : X + m ≤ w) (hy : Y + n ≤ q) :
    wkP w q D P (rectL X Y m n (2 * m + 2 * n - 3)) = (4 * ((gridL X Y (m - 1) ((n - 1) * (m - 1))).map (idxS w D P)).sum, 0) := by
  have hw1 := hf.w1
  have hq1 := hf.q1
  refine okw_wkP hv (by rw [rectL_len]; omega) (allN_ofw fun i hi => ?_) ?_
  · rw [rectL_len] at hi
    unfold inOk
    rw [rectL_at hi]
    unfold rectP inPl
    simp only [decide_eq_true_eq]
    split
    · simp only; omega
    split
    · simp only; omega
    split
    · simp only; omega
    · simp only; omega
  · rw [rectL_len, Int.toNat_natCast, show 2 * m + 2 * n - 3 - 1 = 2 * m + 2 * n - 4 by omega]
    rw [wkS_su (t := rectT (tnP w D P) X Y m n) fun i hi => ?_]
    · rw [← rect_in hm hn, grid_sum, ← su_mul4]
      congr 1
      refine su_congr fun v _ => ?_
      rw [← su_mul4]
      refine su_congr fun u _ => ?_
      exact hf.rnd4 ((X : Int) + u) ((Y : Int) + v)
    · rw [rectL_at (by omega), rectL_at (by omega)]
      exact rect_step hm hn hi
theorem grid_emp {X Y : Int} {m n : Nat} (h : m < 2 ∨ n < 2) : gridL X Y (m - 1) ((n - 1) * (m - 1)) = [] := by
  have : (n - 1) * (m - 1) = 0 := by
    rcases h with h | h
    · rw [show m - 1 = 0 by omega, Nat.mul_zero]
    · rw [show n - 1 = 0 by omega, Nat.zero_mul]
  rw [this]; rfl
end Go.Proofs.YtjchpgkibhdoiaaDoor.Vm
