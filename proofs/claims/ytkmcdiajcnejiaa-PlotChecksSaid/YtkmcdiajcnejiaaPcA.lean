/- Assignments of wigs, pure: the first error of any assignment, how many wigs it uses, and that it never uses fewer than moments prove. -/
import Derived.Test.YtkmcdiajcnejiaaNeB
namespace Go.Proofs.Ytkmcdiajcnejiaa.Vm
open Go
set_option maxRecDepth 100000
set_option linter.unusedSimpArgs false
set_option linter.unusedVariables false
attribute [-simp] List.getD_eq_getElem?_getD
def sameB (wl : List Int) (i k : Nat) : Bool := decide (wl.getD i 0 = wl.getD k 0)
def fitB (p : Ply) (wl : List Int) (i k : Nat) : Bool := sameB wl i k && decide ((p.W.getD i default).s ≠ (p.W.getD k default).s)
def ovB (p : Ply) (wl : List Int) (i k : Nat) : Bool := sameB wl i k && clashB p (p.W.getD i default) (p.W.getD k default)
def nnB (wl : List Int) (i : Nat) : Bool := decide (0 ≤ wl.getD i 0)
def fitR (p : Ply) (wl : List Int) (i : Nat) : Bool := allN (fun k => !fitB p wl i k) i
def ovR (p : Ply) (wl : List Int) (i : Nat) : Bool := allN (fun k => !ovB p wl i k) i
def checkP (p : Ply) (wl : List Int) : Int :=
  if valP p ≠ 0 then valP p else if wl.length ≠ p.W.length then 1
  else if allN (nnB wl) wl.length = false then 1
  else if allN (fitR p wl) p.W.length = false then 8
  else if allN (ovR p wl) p.W.length = false then 10 else 0
def usedP (p : Ply) (wl : List Int) : Int := if checkP p wl = 0 then (cnI (fstB wl) 0 p.W.length : Int) else 0
theorem checkP_ok {p : Ply} {wl : List Int} (h : checkP p wl = 0) : valP p = 0 ∧ wl.length = p.W.length ∧ allN (nnB wl) wl.length = true ∧ allN (fitR p wl) p.W.length = true ∧ allN (ovR p wl) p.W.length = true := by
  unfold checkP at h
  split at h
  · rename_i h1; exact absurd h h1
  rename_i h1
  split at h
  · omega
  rename_i h2
  split at h
  · omega
  rename_i h3
  split at h
  · omega
  rename_i h4
  split at h
  · omega
  rename_i h5
  simp only [Bool.not_eq_false, ne_eq, Classical.not_not] at h1 h2 h3 h4 h5
  exact ⟨h1, h2, h3, h4, h5⟩
theorem ok_checkP {p : Ply} {wl : List Int} (h1 : valP p = 0) (h2 : wl.length = p.W.length) (h3 : allN (nnB wl) wl.length = true) (h4 : allN (fitR p wl) p.W.length = true) (h5 : allN (ovR p wl) p.W.length = true) : checkP p wl = 0 := by
  simp [checkP, h1, h2, h2 ▸ h3, h4, h5]
/-- two wearings with the same wig don't clash -/
theorem checkP_apart {p : Ply} {wl : List Int} (h : checkP p wl = 0) {i k : Nat} (hi : i < p.W.length) (hk : k < p.W.length) (hne : i ≠ k) (e : wl.getD i 0 = wl.getD k 0) : clashB p (p.W.getD i default) (p.W.getD k default) = false := by
  obtain ⟨_, _, _, _, h5⟩ := checkP_ok h
  have key : ∀ a b, a < p.W.length → b < a → wl.getD a 0 = wl.getD b 0 → clashB p (p.W.getD a default) (p.W.getD b default) = false := fun a b ha hb he => by
    have := allN_at (f := fun k => !ovB p wl a k) (allN_at h5 ha) hb
    simpa [ovB, sameB, eq_true he] using this
  by_cases hlt : k < i
  · exact key i k hi hlt e
  · rw [clashB_comm]; exact key k i hk (by omega) e.symm
theorem checkP_used {p : Ply} {wl : List Int} {T : Nat} (hv : valP p = 0) (hU : UsedW p wl T) : checkP p wl = 0 ∧ usedP p wl = T := by
  have hlen := hU.len
  have h : checkP p wl = 0 := by
    refine ok_checkP hv hlen (allN_of fun i hi => ?_) (allN_of fun i hi => allN_of fun k hk => ?_) (allN_of fun i hi => allN_of fun k hk => ?_)
    · exact decide_eq_true (hU.rng i (by omega)).1
    · by_cases e : wl.getD i 0 = wl.getD k 0
      · have := hU.ok i k hi (by omega) (by omega) e
        simp only [clashB, Bool.or_eq_false_iff, decide_eq_false_iff_not] at this
        simp [fitB, sameB, Classical.not_not.1 this.1]
      · simp [fitB, sameB, eq_false e]
    · by_cases e : wl.getD i 0 = wl.getD k 0
      · have := hU.ok i k hi (by omega) (by omega) e
        simp [ovB, this]
      · simp [ovB, sameB, eq_false e]
  refine ⟨h, ?_⟩
  simp only [usedP, h, if_true]
  rw [hU.cnt]
/-- how many of the first n keep a predicate: sums and comparisons -/
theorem cnI_mono {P Q : Nat → Bool} {m : Nat} : ∀ {n : Nat}, (∀ j, m ≤ j → j < m + n → P j = true → Q j = true) → cnI P m n ≤ cnI Q m n
  | 0, _ => Nat.le_refl _
  | n + 1, h => by
    have ih := cnI_mono (P := P) (Q := Q) (m := m) (n := n) fun j h1 h2 => h j h1 (by omega)
    have := h (m + n) (by omega) (by omega)
    simp only [cnI]
    cases hp : P (m + n) with
    | true => rw [this hp]; simp; exact ih
    | false => simp; split <;> omega
theorem or_one : ∀ {a b : Bool}, (a = true → b = false) → (if (a || b) = true then 1 else 0 : Nat) = (if a = true then 1 else 0) + (if b = true then 1 else 0)
  | true, true, h => by simp at h
  | true, false, _ => rfl
  | false, true, _ => rfl
  | false, false, _ => rfl
theorem cnI_or {P Q : Nat → Bool} {m : Nat} : ∀ {n : Nat}, (∀ j, m ≤ j → j < m + n → P j = true → Q j = false) → cnI (fun j => P j || Q j) m n = cnI P m n + cnI Q m n
  | 0, _ => rfl
  | n + 1, h => by
    have ih := cnI_or (P := P) (Q := Q) (m := m) (n := n) fun j h1 h2 => h j h1 (by omega)
    have := h (m + n) (by omega) (by omega)
    have e := or_one this
    simp only [cnI, ih, e]
    omega
/-- the values that the members of a set of places have -/
def hasU (U : Nat → Bool) (w : List Int) (k : Nat) (v : Nat) : Bool := (List.range k).any fun i => U i && decide (w.getD i 0 = (v : Int))
theorem hasU_iff {U : Nat → Bool} {w : List Int} {k v : Nat} : hasU U w k v = true ↔ ∃ i, i < k ∧ U i = true ∧ w.getD i 0 = v := by simp [hasU]
theorem set_cnt {U : Nat → Bool} {w : List Int} {T : Nat} : ∀ {k : Nat}, (∀ i, i < k → 0 ≤ w.getD i 0 ∧ w.getD i 0 < T) → (∀ i j, i < k → j < k → i ≠ j → U i = true → U j = true → w.getD i 0 ≠ w.getD j 0) → cnI U 0 k = cnI (hasU U w k) 0 T
  | 0, _, _ => (cnI_none fun j _ _ => by simp [hasU]).symm
  | k + 1, h, hn => by
    have ih := set_cnt (U := U) (w := w) (T := T) (k := k) (fun i hi => h i (by omega)) fun i j hi hj => hn i j (by omega) (by omega)
    obtain ⟨h1, h2⟩ := h k (by omega)
    simp only [cnI, Nat.zero_add, ih]
    by_cases e : U k = true
    · rw [e]
      simp only [if_true]
      have hno : hasU U w k (w.getD k 0).toNat = false := by
        cases hh : hasU U w k (w.getD k 0).toNat with
        | false => rfl
        | true =>
          obtain ⟨i, hi, hu, hw⟩ := hasU_iff.1 hh
          exact absurd (by omega : w.getD i 0 = w.getD k 0) (hn i k (by omega) (by omega) (by omega) hu e)
      refine ((cnI_one (x := (w.getD k 0).toNat) hno (hasU_iff.2 ⟨k, by omega, e, by omega⟩) (fun v hv => ?_)).trans ?_).symm
      · rw [Bool.eq_iff_iff, hasU_iff, hasU_iff]
        constructor
        · rintro ⟨a, b, c, d⟩; exact ⟨a, by omega, c, d⟩
        · rintro ⟨a, b, c, d⟩
          by_cases ea : a = k
          · subst ea; omega
          · exact ⟨a, by omega, c, d⟩
      · rw [if_pos (by omega)]
    · have e : U k = false := by simpa using e
      rw [e]
      simp only [Bool.false_eq_true, if_false, Nat.add_zero]
      refine cnI_congr fun v _ _ => ?_
      rw [Bool.eq_iff_iff, hasU_iff, hasU_iff]
      constructor
      · rintro ⟨a, b, c, d⟩; exact ⟨a, by omega, c, d⟩
      · rintro ⟨a, b, c, d⟩
        by_cases ea : a = k
        · subst ea; rw [e] at c; simp at c
        · exact ⟨a, by omega, c, d⟩
theorem bound_of (w : List Int) : ∀ k : Nat, ∃ T : Nat, ∀ i, i < k → w.getD i 0 < T
  | 0 => ⟨0, fun i hi => by omega⟩
  | k + 1 => by
    obtain ⟨T, h⟩ := bound_of w k
    refine ⟨T + (w.getD k 0).toNat + 1, fun i hi => ?_⟩
    by_cases e : i = k
    · subst e; omega
    · have := h i (by omega); omega
/-- places with different values are no more than the values -/
theorem set_le {U : Nat → Bool} {w : List Int} {k : Nat} (h : ∀ i, i < k → 0 ≤ w.getD i 0) (hn : ∀ i j, i < k → j < k → i ≠ j → U i = true → U j = true → w.getD i 0 ≠ w.getD j 0) : cnI U 0 k ≤ cnI (fstB w) 0 k := by
  obtain ⟨T, hT⟩ := bound_of w k
  have hr : ∀ i, i < k → 0 ≤ w.getD i 0 ∧ w.getD i 0 < T := fun i hi => ⟨h i hi, hT i hi⟩
  rw [set_cnt hr hn, fst_cnt hr]
  refine cnI_mono fun v _ _ hv => ?_
  obtain ⟨i, hi, _, e⟩ := hasU_iff.1 hv
  exact hasV_iff.2 ⟨i, hi, e⟩
theorem countP_cnI {W : List Wr} {f : Wr → Bool} : ∀ {n : Nat}, n ≤ W.length → (W.take n).countP f = cnI (fun i => f (W.getD i default)) 0 n
  | 0, _ => by simp [cnI]
  | n + 1, h => by
    have ih := countP_cnI (W := W) (f := f) (n := n) (by omega)
    have e : W.take (n + 1) = W.take n ++ [W.getD n default] := by
      rw [List.take_add_one, List.getElem?_eq_getElem (by omega), getD_of (by omega)]; rfl
    rw [e, List.countP_append, ih]
    simp only [cnI, Nat.zero_add]
    cases hf : f (W.getD n default) <;> simp [hf]
/-- in one of the crowds of moments -/
def inM (p : Ply) (M : List (Int × Int)) (i : Nat) : Bool := M.any fun m => inB p m.1 m.2 (p.W.getD i default)
theorem inM_cons {p : Ply} {m : Int × Int} {M : List (Int × Int)} {i : Nat} : inM p (m :: M) i = (inB p m.1 m.2 (p.W.getD i default) || inM p M i) := rfl
theorem need_cnt {p : Ply} : ∀ {M : List (Int × Int)}, (∀ i j, i < j → j < M.length → (M.getD i default).1 ≠ (M.getD j default).1) → needN p M = cnI (inM p M) 0 p.W.length
  | [], _ => by
    have : cnI (inM p []) 0 p.W.length = 0 := cnI_none fun j _ _ => by simp [inM]
    rw [this]; rfl
  | m :: M, h => by
    have ih := need_cnt (p := p) (M := M) fun i j hij hj => by
      exact h (i + 1) (j + 1) (by omega) (by simp; omega)
    have e : cnI (inM p (m :: M)) 0 p.W.length = cnI (fun i => inB p m.1 m.2 (p.W.getD i default) || inM p M i) 0 p.W.length := cnI_congr fun j _ _ => inM_cons
    rw [e, cnI_or, ← ih]
    · have h2 := countP_cnI (W := p.W) (f := inB p m.1 m.2) (Nat.le_refl _)
      rw [List.take_length] at h2
      rw [← h2]
      simp [needN, crw]
    · intro j _ _ hj
      cases hh : inM p M j with
      | false => rfl
      | true =>
        simp only [inM, List.any_eq_true] at hh
        obtain ⟨x, hx, hb⟩ := hh
        obtain ⟨q, hq, eq⟩ := List.mem_iff_getElem.1 hx
        have h3 := h 0 (q + 1) (by omega) (by simp; omega)
        have e1 : (m :: M).getD 0 default = m := rfl
        have e2 : (m :: M).getD (q + 1) default = x := by rw [getD_of (by simp; omega)]; simpa using eq
        rw [e1, e2] at h3
        exact absurd ((inB_iff.1 hj).1.symm.trans (inB_iff.1 hb).1) h3
/-- what moments prove, every assignment that is accepted uses -/
theorem need_used {p : Ply} {wl : List Int} {M : List (Int × Int)} (h : checkP p wl = 0) (hM : ∀ i j, i < j → j < M.length → (M.getD i default).1 ≠ (M.getD j default).1) : needN p M ≤ cnI (fstB wl) 0 p.W.length := by
  obtain ⟨h1, h2, h3, h4, h5⟩ := checkP_ok h
  rw [need_cnt hM]
  refine set_le (fun i hi => ?_) fun i j hi hj hne ui uj e => ?_
  · have := allN_at h3 (i := i) (by omega)
    exact of_decide_eq_true this
  · have hc := checkP_apart h hi hj hne e
    have hs : (p.W.getD i default).s = (p.W.getD j default).s := by
      simp only [clashB, Bool.or_eq_false_iff, decide_eq_false_iff_not] at hc
      exact Classical.not_not.1 hc.1
    simp only [inM, List.any_eq_true] at ui uj
    obtain ⟨x, hx, bx⟩ := ui
    obtain ⟨y, hy, b_y⟩ := uj
    obtain ⟨a, ha, ea⟩ := List.mem_iff_getElem.1 hx
    obtain ⟨b, hb, eb⟩ := List.mem_iff_getElem.1 hy
    have hxy : x.1 = y.1 := (inB_iff.1 bx).1.symm.trans (hs.trans (inB_iff.1 b_y).1)
    have hab : a = b := by
      have ga : M.getD a default = x := by rw [getD_of ha]; exact ea
      have gb : M.getD b default = y := by rw [getD_of hb]; exact eb
      by_cases hlt : a < b
      · have := hM a b hlt hb; rw [ga, gb] at this; exact absurd hxy this
      · by_cases hgt : b < a
        · have := hM b a hgt ha; rw [ga, gb] at this; exact absurd hxy.symm this
        · omega
    subst hab
    have : x = y := ea.symm.trans eb
    subst this
    rw [inB_clash bx b_y] at hc
    simp at hc
theorem least_used {p : Ply} {wl : List Int} {M : List (Int × Int)} (h : checkP p wl = 0) (hM : MomR p M) : (leastP p : Int) ≤ usedP p wl := by
  have := need_used h fun i j hij hj => by have := hM.asc i j hij hj; omega
  rw [hM.need] at this
  simp only [usedP, h, if_true]
  omega
end Go.Proofs.Ytkmcdiajcnejiaa.Vm
