/- The row that is spread, pure: which color comes next, and why the row is one. -/
import Derived.Test.YtakbcmofgfjeiaaKnY
import Derived.Test.YtakbcmofgfjeiaaSpP
namespace Go.Proofs.Ytakbcmofgfjeiaa.Vm
open Go
set_option maxRecDepth 100000
set_option linter.unusedSimpArgs false
set_option linter.unusedVariables false
attribute [-simp] List.getD_eq_getElem?_getD
/-- may color c come as the k-th? -/
def mayS (ws : List Int) (W : Int) (cnt : Nat → Int) (k : Int) (c : Nat) : Prop := cnt c * W < k * ws.getD c 0
/-- does color c go before b? -/
def befS (ws : List Int) (cnt : Nat → Int) (c b : Nat) : Prop := (cnt c + 1) * ws.getD b 0 < (cnt b + 1) * ws.getD c 0
instance {ws : List Int} {W : Int} {cnt : Nat → Int} {k : Int} {c : Nat} : Decidable (mayS ws W cnt k c) := by unfold mayS; infer_instance
instance {ws : List Int} {cnt : Nat → Int} {c b : Nat} : Decidable (befS ws cnt c b) := by unfold befS; infer_instance
/-- of the first ones, that which comes next -/
def bsS (ws : List Int) (W : Int) (cnt : Nat → Int) (k : Int) : Nat → Int
  | 0 => -1
  | c + 1 => if mayS ws W cnt k c ∧ (bsS ws W cnt k c < 0 ∨ befS ws cnt c (bsS ws W cnt k c).toNat) then (c : Int) else bsS ws W cnt k c
theorem bsS_lt {ws : List Int} {W k : Int} {cnt : Nat → Int} : ∀ {m : Nat}, -1 ≤ bsS ws W cnt k m ∧ bsS ws W cnt k m < m
  | 0 => by simp [bsS]
  | m + 1 => by
    have := @bsS_lt ws W k cnt m
    simp only [bsS]; split <;> omega
theorem bsS_ok {ws : List Int} {W k : Int} {cnt : Nat → Int} (hW : 0 < W) (hk : 0 ≤ k) (hw : ∀ c, 0 ≤ ws.getD c 0) (hc : ∀ c, 0 ≤ cnt c) : ∀ {m : Nat},
    (bsS ws W cnt k m < 0 → ∀ c, c < m → ¬ mayS ws W cnt k c) ∧ (0 ≤ bsS ws W cnt k m → mayS ws W cnt k (bsS ws W cnt k m).toNat ∧ ∀ c, c < m → mayS ws W cnt k c → (cnt (bsS ws W cnt k m).toNat + 1) * ws.getD c 0 ≤ (cnt c + 1) * ws.getD (bsS ws W cnt k m).toNat 0)
  | 0 => ⟨fun _ c h => by omega, fun h => by simp [bsS] at h⟩
  | m + 1 => by
    obtain ⟨i1, i2⟩ := @bsS_ok ws W k cnt hW hk hw hc m
    have hpos : ∀ c, mayS ws W cnt k c → 0 < ws.getD c 0 := fun c h => by
      apply Classical.byContradiction
      intro hn
      have e0 : ws.getD c 0 = 0 := by have := hw c; omega
      unfold mayS at h
      rw [e0, Int.mul_zero] at h
      have := Int.mul_nonneg (hc c) (show 0 ≤ W by omega)
      omega
    simp only [bsS]
    generalize hb : bsS ws W cnt k m = b at *
    by_cases h : mayS ws W cnt k m ∧ (b < 0 ∨ befS ws cnt m b.toNat)
    · rw [if_pos h]
      refine ⟨fun h0 => by omega, fun _ => ?_⟩
      rw [Int.toNat_natCast]
      refine ⟨h.1, fun c hcm hmc => ?_⟩
      by_cases e : c = m
      · subst e; exact Int.le_refl _
      by_cases hb0 : b < 0
      · exact absurd hmc (i1 hb0 c (by omega))
      obtain ⟨j1, j2⟩ := i2 (by omega)
      have j3 := j2 c (by omega) hmc
      have j4 : befS ws cnt m b.toNat := by rcases h.2 with h2 | h2; exact absurd h2 hb0; exact h2
      unfold befS at j4
      have pb := hpos _ j1
      have pc := hpos _ hmc
      have pm := hpos _ h.1
      generalize ws.getD b.toNat 0 = wb at *
      generalize ws.getD c 0 = wc at *
      generalize ws.getD m 0 = wm at *
      have a1 : (cnt m + 1) * wb * wc ≤ (cnt b.toNat + 1) * wm * wc := Int.mul_le_mul_of_nonneg_right (by omega) (by omega)
      have a2 : (cnt b.toNat + 1) * wc * wm ≤ (cnt c + 1) * wb * wm := Int.mul_le_mul_of_nonneg_right j3 (by omega)
      have e1 : (cnt m + 1) * wb * wc = (cnt m + 1) * wc * wb := Int.mul_right_comm _ _ _
      have e2 : (cnt b.toNat + 1) * wm * wc = (cnt b.toNat + 1) * wc * wm := Int.mul_right_comm _ _ _
      have e3 : (cnt c + 1) * wb * wm = (cnt c + 1) * wm * wb := Int.mul_right_comm _ _ _
      exact Int.le_of_mul_le_mul_right (show (cnt m + 1) * wc * wb ≤ (cnt c + 1) * wm * wb by omega) pb
    · rw [if_neg h]
      refine ⟨fun h0 c hcm hmc => ?_, fun h0 => ?_⟩
      · by_cases e : c = m
        · subst e; exact h ⟨hmc, Or.inl h0⟩
        · exact i1 h0 c (by omega) hmc
      · obtain ⟨j1, j2⟩ := i2 h0
        refine ⟨j1, fun c hcm hmc => ?_⟩
        by_cases e : c = m
        · subst e
          apply Classical.byContradiction
          intro hn
          exact h ⟨hmc, Or.inr (show befS ws cnt c b.toNat by unfold befS; omega)⟩
        · exact j2 c (by omega) hmc
/-- the first k of the row -/
def rowS (ws : List Int) (W : Int) : Nat → List Int
  | 0 => []
  | k + 1 => rowS ws W k ++ [bsS ws W (fun c => cN (rowS ws W k) c k) ((k : Int) + 1) ws.length]
theorem rowS_len {ws : List Int} {W : Int} : ∀ {k : Nat}, (rowS ws W k).length = k
  | 0 => rfl
  | k + 1 => by simp [rowS, @rowS_len ws W k]
theorem rowS_get {ws : List Int} {W : Int} {i : Nat} : ∀ {n : Nat}, i < n → (rowS ws W n).getD i 0 = bsS ws W (fun c => cN (rowS ws W i) c i) ((i : Int) + 1) ws.length
  | 0, h => by omega
  | n + 1, h => by
    have hl := @rowS_len ws W n
    by_cases e : i = n
    · subst e
      rw [rowS, List.getD_eq_getElem?_getD, List.getElem?_append_right (by omega), hl]; simp
    · rw [rowS, List.getD_eq_getElem?_getD, List.getElem?_append_left (by omega), ← List.getD_eq_getElem?_getD]
      exact rowS_get (by omega)
theorem cN_congr {a b : List Int} {c : Nat} : ∀ {k : Nat}, (∀ i, i < k → a.getD i 0 = b.getD i 0) → cN a c k = cN b c k
  | 0, _ => rfl
  | k + 1, h => by simp only [cN]; rw [cN_congr fun i hi => h i (by omega), h k (by omega)]
theorem cN_row {ws : List Int} {W : Int} {c k n : Nat} (h : k ≤ n) : cN (rowS ws W n) c k = cN (rowS ws W k) c k :=
  cN_congr fun i hi => by rw [rowS_get (show i < n by omega), rowS_get hi]
theorem su_list {l : List Int} : ∀ {k : Nat}, k ≤ l.length → su (fun c => l.getD c 0) k = (l.take k).sum
  | 0, _ => by simp [su]
  | k + 1, h => by rw [take_sum (by omega), ← su_list (by omega)]; rfl
section
variable {ws : List Int} {W : Int} {n : Nat}
theorem row_in (hW : 0 < W) (hs : W = ws.sum) (hw : ∀ c, 0 ≤ ws.getD c 0) : ∀ {k : Nat}, (∀ i, i < k → 0 ≤ (rowS ws W k).getD i 0 ∧ (rowS ws W k).getD i 0 < ws.length) ∧ su (fun c => cN (rowS ws W k) c k) ws.length = k
  | 0 => ⟨fun i h => by omega, su_zero fun c _ => rfl⟩
  | k + 1 => by
    obtain ⟨h1, h2⟩ := row_in hW hs hw (k := k)
    have hsu : su (fun c => ws.getD c 0) ws.length = W := by rw [su_list (Nat.le_refl _), List.take_length, hs]
    have hlt := @bsS_lt ws W ((k : Int) + 1) (fun c => cN (rowS ws W k) c k) ws.length
    have hb : 0 ≤ bsS ws W (fun c => cN (rowS ws W k) c k) ((k : Int) + 1) ws.length := by
      apply Classical.byContradiction
      intro hn
      obtain ⟨c, c1, c2⟩ := some_may (w := fun c => ws.getD c 0) (m := ws.length) (by rw [hsu]; exact hW) h2
      rw [hsu] at c2
      exact (bsS_ok hW (by omega) hw fun c => (cN_bd (cs := rowS ws W k) (c := c) k).1).1 (by omega) c c1 c2
    have h3 : ∀ i, i < k + 1 → 0 ≤ (rowS ws W (k + 1)).getD i 0 ∧ (rowS ws W (k + 1)).getD i 0 < ws.length := fun i hi => by
      by_cases e : i = k
      · subst e
        rw [rowS_get hi]; omega
      · rw [rowS_get hi, ← rowS_get (show i < k by omega)]; exact h1 i (by omega)
    refine ⟨h3, ?_⟩
    have h4 := h3 k (by omega)
    have e1 : su (fun c => cN (rowS ws W (k + 1)) c (k + 1)) ws.length = su (fun c => cN (rowS ws W k) c k + if c = ((rowS ws W (k + 1)).getD k 0).toNat then 1 else 0) ws.length := su_congr fun c hc => by
      simp only [cN]
      rw [cN_row (by omega)]
      congr 1
      by_cases e : (rowS ws W (k + 1)).getD k 0 = (c : Int)
      · rw [if_pos e, if_pos (by omega)]
      · rw [if_neg e, if_neg (by omega)]
    rw [e1, su_add, h2, su_ind (by omega)]; rfl
theorem row_edf (hW : 0 < W) (hs : W = ws.sum) (hw : ∀ c, 0 ≤ ws.getD c 0) : EdfR (fun c => ws.getD c 0) ws.length n (fun k c => cN (rowS ws W n) c k) fun k => ((rowS ws W n).getD k 0).toNat := by
  have hsu : su (fun c => ws.getD c 0) ws.length = W := by rw [su_list (Nat.le_refl _), List.take_length, hs]
  obtain ⟨h1, h2⟩ := row_in hW hs hw (k := n)
  have hok := fun k : Nat => @bsS_ok ws W ((k : Int) + 1) (fun c => cN (rowS ws W k) c k) hW (by omega) hw (fun c => (cN_bd (cs := rowS ws W k) (c := c) k).1) ws.length
  refine ⟨by rw [hsu]; exact hW, fun c _ => hw c, fun c => rfl, fun k hk c => ?_, fun k hk => by have := h1 k hk; omega, fun k hk => ?_, fun k hk c hc hm => ?_⟩
  · have h4 := h1 k hk
    show cN _ c k + _ = cN _ c k + _
    congr 1
    by_cases e : (rowS ws W n).getD k 0 = (c : Int)
    · rw [if_pos e, if_pos (by omega)]
    · rw [if_neg e, if_neg (by omega)]
  · have h4 := h1 k hk
    rw [hsu]
    show cN _ _ k * W < _
    rw [cN_row (show k ≤ n by omega)]
    rw [rowS_get hk] at h4 ⊢
    exact ((hok k).2 h4.1).1
  · have h4 := h1 k hk
    rw [hsu] at hm
    rw [cN_row (show k ≤ n by omega)] at hm ⊢
    rw [cN_row (show k ≤ n by omega)]
    rw [rowS_get hk] at h4 ⊢
    exact ((hok k).2 h4.1).2 c hc hm
theorem row_good (hW : 0 < W) (hs : W = ws.sum) (hw : ∀ c, 0 ≤ ws.getD c 0) {k : Nat} (hk : k ≤ n) : ∀ {m : Nat}, m ≤ ws.length → badC ws W (rowS ws W n) k m = false
  | 0, _ => rfl
  | m + 1, hm => by
    have hsu : su (fun c => ws.getD c 0) ws.length = W := by rw [su_list (Nat.le_refl _), List.take_length, hs]
    have a := (row_edf (n := n) hW hs hw).high hk m (by omega)
    have b := (row_edf (n := n) hW hs hw).low hk (c0 := m) (by omega)
    rw [hsu] at a b
    simp only [badC, row_good hW hs hw hk (m := m) (by omega), Bool.false_or]
    refine decide_eq_false ?_
    simp only [far]
    rw [Int.add_mul] at b
    omega
theorem row_spr (hW : 0 < W) (hs : W = ws.sum) (hw : ∀ c, 0 ≤ ws.getD c 0) : ∀ {f i : Nat}, i + f ≤ n → spr ws W (rowS ws W n) f i = (0, true)
  | 0, _, _ => rfl
  | f + 1, i, h => by
    rw [spr, if_neg (by rw [row_good hW hs hw (by omega) (Nat.le_refl _)]; simp)]
    exact row_spr hW hs hw (by omega)
end
/-- the row that the document asks for, or none -/
def sprL (l : List Int) (n : Int) : List Int := if quoE l n = 0 then rowS l (sumW l) n.toNat else []
theorem sprL_ok {l : List Int} {n : Int} (h : quoE l n = 0) : isSpreadP l (sprL l n) = (0, true, 0) ∧ ((sprL l n).length : Int) = n := by
  have h' : ¬ (sumW l = 0 ∨ n < 0 ∨ 600 < n) := fun h2 => by
    unfold quoE at h; rw [if_pos h2] at h; cases h
  obtain ⟨w1, w2, w3, w4, w5⟩ := sumW_pos (show sumW l ≠ 0 by omega)
  have wb : ∀ c, 0 ≤ l.getD c 0 := fun i => (wBad_bd w2 (i := i)).1
  have e : sprL l n = rowS l (sumW l) n.toNat := if_pos h
  have hl := @rowS_len l (sumW l) n.toNat
  rw [e]
  refine ⟨?_, by omega⟩
  obtain ⟨r1, r2⟩ := row_in (by omega) w3 wb (k := n.toNat)
  have hcb : colBad (rowS l (sumW l) n.toNat) l.length = false := by
    cases hc : colBad (rowS l (sumW l) n.toNat) l.length with
    | false => rfl
    | true =>
      unfold colBad at hc
      obtain ⟨x, hx, hp⟩ := List.any_eq_true.1 hc
      obtain ⟨i, hi, ei⟩ := List.mem_iff_getElem.1 hx
      have := r1 i (by omega)
      rw [List.getD_eq_getElem?_getD, List.getElem?_eq_getElem hi] at this
      simp at this hp; omega
  have := row_spr (n := n.toNat) (by omega) w3 wb (f := n.toNat) (i := 0) (by omega)
  unfold isSpreadP
  rw [if_neg (by omega), if_neg (by omega), hcb, hl, this]
  rfl
end Go.Proofs.Ytakbcmofgfjeiaa.Vm
