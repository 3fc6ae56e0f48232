/- Sorting, pure: lists that are turned about inside a range; merging by turning (slices.symMerge). -/
import Derived.Test.YtkmcdiajcnejiaaVmRec
namespace Go.Proofs.Ytkmcdiajcnejiaa.Vm
open Go
set_option maxRecDepth 100000
set_option linter.unusedSimpArgs false
set_option linter.unusedVariables false
attribute [-simp] List.getD_eq_getElem?_getD
section
variable {α : Type} [Inhabited α]
/-- the same elements, and the same ones outside of a range -/
structure PermR (a b : Nat) (l l' : List α) : Prop where
  perm : l'.Perm l
  out : ∀ i, (i < a ∨ b ≤ i) → l'.getD i default = l.getD i default
theorem PermR.refl {a b : Nat} {l : List α} : PermR a b l l := ⟨.refl _, fun _ _ => rfl⟩
theorem PermR.trans {a b : Nat} {l l' l'' : List α} (h : PermR a b l l') (k : PermR a b l' l'') : PermR a b l l'' := ⟨k.perm.trans h.perm, fun i hi => (k.out i hi).trans (h.out i hi)⟩
theorem PermR.len {a b : Nat} {l l' : List α} (h : PermR a b l l') : l'.length = l.length := h.perm.length_eq
def swp (l : List α) (i j : Nat) : List α := (l.set i (l.getD j default)).set j (l.getD i default)
theorem swp_len {l : List α} {i j : Nat} : (swp l i j).length = l.length := by simp [swp]
theorem getD_of {l : List α} {i : Nat} (h : i < l.length) : l.getD i default = l[i] := by simp [List.getD_eq_getElem?_getD, h]
theorem setD_get {l : List α} {i k : Nat} {x : α} (h : i < l.length) : (l.set i x).getD k default = if k = i then x else l.getD k default := by
  simp only [List.getD_eq_getElem?_getD, List.getElem?_set]
  by_cases e : k = i
  · subst e; simp [h]
  · rw [if_neg (fun e' => e e'.symm), if_neg e]
theorem swp_get {l : List α} {i j k : Nat} (hi : i < l.length) (hj : j < l.length) : (swp l i j).getD k default = if k = j then l.getD i default else if k = i then l.getD j default else l.getD k default := by
  rw [swp, setD_get (by simpa using hj), setD_get hi]
theorem swp_perm {a b : Nat} {l : List α} {i j : Nat} (hi : a ≤ i ∧ i < b) (hj : a ≤ j ∧ j < b) (hb : b ≤ l.length) : PermR a b l (swp l i j) := by
  refine ⟨?_, fun k hk => by rw [swp_get (by omega) (by omega), if_neg (by omega), if_neg (by omega)]⟩
  have h1 : i < l.length := by omega
  have h2 : j < l.length := by omega
  rw [swp, getD_of h1, getD_of h2]
  exact List.set_set_perm h1 h2
end
section
variable {α : Type} [Inhabited α] {cf : α → α → Int}
def leC (cf : α → α → Int) (x y : α) : Prop := ¬ cf y x < 0
structure Ordr (cf : α → α → Int) : Prop where
  tr : ∀ x y z, leC cf x y → leC cf y z → leC cf x z
  tot : ∀ x y, leC cf x y ∨ leC cf y x
omit [Inhabited α] in
theorem Ordr.rf (h : Ordr cf) (x : α) : leC cf x x := (h.tot x x).elim id id
def SortR (cf : α → α → Int) (a b : Nat) (l : List α) : Prop := ∀ p q, a ≤ p → p < q → q < b → leC cf (l.getD p default) (l.getD q default)
/-- amid an insertion: all but the one at j stand in their order, and what is behind it is no less -/
def InsR (cf : α → α → Int) (a i j : Nat) (l : List α) : Prop :=
  (∀ p q, a ≤ p → p < q → q ≤ i → p ≠ j → q ≠ j → leC cf (l.getD p default) (l.getD q default)) ∧ ∀ q, j < q → q ≤ i → leC cf (l.getD j default) (l.getD q default)
theorem InsR.start {a i : Nat} {l : List α} (h : SortR cf a i l) : InsR cf a i i l :=
  ⟨fun p q h1 h2 h3 _ h5 => h p q h1 h2 (by omega), fun q h1 h2 => absurd h1 (by omega)⟩
theorem InsR.swap (ho : Ordr cf) {a i j : Nat} {l : List α} (h : InsR cf a i j l) (ha : a < j) (hj : j ≤ i) (hi : i < l.length) (hlt : cf (l.getD j default) (l.getD (j - 1) default) < 0) : InsR cf a i (j - 1) (swp l j (j - 1)) := by
  have hle : leC cf (l.getD j default) (l.getD (j - 1) default) := by
    rcases ho.tot (l.getD j default) (l.getD (j - 1) default) with h1 | h1
    · exact h1
    · exact absurd hlt h1
  have g : ∀ k, (swp l j (j - 1)).getD k default = if k = j - 1 then l.getD j default else if k = j then l.getD (j - 1) default else l.getD k default := fun k => swp_get (by omega) (by omega)
  refine ⟨fun p q h1 h2 h3 h4 h5 => ?_, fun q h1 h2 => ?_⟩
  · rw [g p, g q, if_neg h4, if_neg h5]
    by_cases e1 : p = j
    · rw [if_pos e1, if_neg (by omega)]
      exact h.1 (j - 1) q (by omega) (by omega) h3 (by omega) (by omega)
    · rw [if_neg e1]
      by_cases e2 : q = j
      · rw [if_pos e2]
        exact h.1 p (j - 1) h1 (by omega) (by omega) (by omega) (by omega)
      · rw [if_neg e2]; exact h.1 p q h1 h2 h3 e1 e2
  · rw [g (j - 1), g q, if_pos rfl, if_neg (by omega)]
    by_cases e : q = j
    · rw [if_pos e]; exact hle
    · rw [if_neg e]; exact h.2 q (by omega) h2
theorem InsR.done (ho : Ordr cf) {a i j : Nat} {l : List α} (h : InsR cf a i j l) (ha : a ≤ j) (hj : j ≤ i) (hx : j = a ∨ ¬ cf (l.getD j default) (l.getD (j - 1) default) < 0) : SortR cf a (i + 1) l := by
  intro p q h1 h2 h3
  by_cases e1 : p = j
  · subst e1; exact h.2 q h2 (by omega)
  · by_cases e2 : q = j
    · subst e2
      rcases hx with hx | hx
      · omega
      · by_cases e3 : p = q - 1
        · subst e3; exact hx
        · exact ho.tr _ _ _ (h.1 p (q - 1) h1 (by omega) (by omega) e1 (by omega)) hx
    · exact h.1 p q h1 h2 (by omega) e1 e2
end
theorem setSame {H : Hp} {b : Nat} {x : Blk} (h : H[b]? = some x) : H.set b x = H := by
  obtain ⟨h1, h2⟩ := List.getElem?_eq_some_iff.1 h
  rw [← h2, List.set_getElem_self]
theorem setGet {H : Hp} {b : Nat} {x : Blk} (h : b < H.length) : (H.set b x)[b]? = some x := by simp [h]
section
variable {α : Type} [Inhabited α]
/-- two ranges change places -/
def swr (l : List α) (a b : Nat) : Nat → List α
  | 0 => l
  | n + 1 => swp (swr l a b n) (a + n) (b + n)
theorem swr_len {l : List α} {a b : Nat} : ∀ {n : Nat}, (swr l a b n).length = l.length
  | 0 => rfl
  | n + 1 => by rw [swr, swp_len, swr_len]
theorem swr_get {l : List α} {a b N : Nat} (hab : a + N ≤ b) (hb : b + N ≤ l.length) : ∀ {n : Nat}, n ≤ N → ∀ k, (swr l a b n).getD k default = if a ≤ k ∧ k < a + n then l.getD (k - a + b) default else if b ≤ k ∧ k < b + n then l.getD (k - b + a) default else l.getD k default
  | 0, _, k => by rw [swr, if_neg (by omega), if_neg (by omega)]
  | n + 1, hn, k => by
    have ih := swr_get hab hb (n := n) (by omega)
    rw [swr, swp_get (by rw [swr_len]; omega) (by rw [swr_len]; omega), ih (a + n), ih (b + n), ih k]
    repeat' split
    all_goals first | rfl | (exfalso; omega) | (exact congrArg (fun z => List.getD _ z default) (by omega))
theorem swr_perm {l : List α} {a b x y : Nat} (hx : x ≤ a) : ∀ {n : Nat}, a + n ≤ y → b + n ≤ y → x ≤ b → y ≤ l.length → PermR x y l (swr l a b n)
  | 0, _, _, _, _ => PermR.refl
  | n + 1, h1, h2, h3, h4 => by
    have ih := swr_perm (l := l) (b := b) hx (n := n) (y := y) (by omega) (by omega) h3 h4
    exact ih.trans (swp_perm ⟨by omega, by omega⟩ ⟨by omega, by omega⟩ (by rw [swr_len]; omega))
/-- the parts before and behind m change places -/
def RotR (a m b : Nat) (l l' : List α) : Prop := ∀ k, l'.getD k default = if a ≤ k ∧ k < b then (if k < a + (b - m) then l.getD (k + (m - a)) default else l.getD (k - (b - m)) default) else l.getD k default
/-- amid turning: what is left to be turned lies i before and j behind m -/
def RotI (a m b i j : Nat) (l l' : List α) : Prop := ∀ k, (if a ≤ k ∧ k < b then (if k < a + (b - m) then l.getD (k + (m - a)) default else l.getD (k - (b - m)) default) else l.getD k default) =
  if m - i ≤ k ∧ k < m + j then (if k < m - i + j then l'.getD (k + i) default else l'.getD (k - j) default) else l'.getD k default
theorem RotI.start {a m b : Nat} {l : List α} (h : a ≤ m ∧ m ≤ b) : RotI a m b (m - a) (b - m) l l := fun k => by
  repeat' split
  all_goals first | rfl | (exfalso; omega) | (exact congrArg (fun z => List.getD _ z default) (by omega))
theorem RotI.more {a m b i j : Nat} {l l' : List α} (h : RotI a m b i j l l') (hi : i ≤ m) (hj : j < i) (hl : m + j ≤ l'.length) : RotI a m b (i - j) j l (swr l' (m - i) m j) := fun k => by
  have g := swr_get (l := l') (a := m - i) (b := m) (N := j) (by omega) hl (Nat.le_refl _)
  rw [h k]
  simp only [g]
  repeat' split
  all_goals first | rfl | (exfalso; omega) | (exact congrArg (fun z => List.getD _ z default) (by omega))
theorem RotI.less {a m b i j : Nat} {l l' : List α} (h : RotI a m b i j l l') (hi : i ≤ m) (hj : i < j) (hl : m + j ≤ l'.length) : RotI a m b i (j - i) l (swr l' (m - i) (m + j - i) i) := fun k => by
  have g := swr_get (l := l') (a := m - i) (b := m + j - i) (N := i) (by omega) (by omega) (Nat.le_refl _)
  rw [h k]
  simp only [g]
  repeat' split
  all_goals first | rfl | (exfalso; omega) | (exact congrArg (fun z => List.getD _ z default) (by omega))
theorem RotI.done {a m b i : Nat} {l l' : List α} (h : RotI a m b i i l l') (hi : i ≤ m) (hl : m + i ≤ l'.length) : RotR a m b l (swr l' (m - i) m i) := fun k => by
  have g := swr_get (l := l') (a := m - i) (b := m) (N := i) (by omega) hl (Nat.le_refl _)
  rw [h k, g k]
  repeat' split
  all_goals first | rfl | (exfalso; omega) | (exact congrArg (fun z => List.getD _ z default) (by omega))
theorem RotR.same {a m b : Nat} {l : List α} (h : (a = m ∧ m ≤ b) ∨ (m = b ∧ a ≤ m)) : RotR a m b l l := fun k => by
  rcases h with ⟨rfl, h⟩ | ⟨rfl, h⟩
  · repeat' split
    all_goals first | rfl | (exfalso; omega) | (exact congrArg (fun z => List.getD _ z default) (by omega))
  · repeat' split
    all_goals first | rfl | (exfalso; omega) | (exact congrArg (fun z => List.getD _ z default) (by omega))
/-- what stands in the range afterwards stood in it before -/
theorem PermR.mem {a b : Nat} {l l' : List α} (h : PermR a b l l') (hb : b ≤ l.length) {k : Nat} (hk : a ≤ k ∧ k < b) : ∃ k', (a ≤ k' ∧ k' < b) ∧ l'.getD k default = l.getD k' default := by
  have hlen := h.len
  have e1 : l'.take a = l.take a := by
    apply List.ext_getElem?
    intro i
    by_cases hi : i < a
    · rw [List.getElem?_take_of_lt hi, List.getElem?_take_of_lt hi]
      have := h.out i (Or.inl hi)
      rw [getD_of (by omega), getD_of (by omega)] at this
      rw [List.getElem?_eq_getElem (by omega), List.getElem?_eq_getElem (by omega), this]
    · rw [List.getElem?_eq_none (by simp; omega), List.getElem?_eq_none (by simp; omega)]
  have e2 : l'.drop b = l.drop b := by
    apply List.ext_getElem?
    intro i
    rw [List.getElem?_drop, List.getElem?_drop]
    by_cases hi : b + i < l.length
    · have := h.out (b + i) (Or.inr (by omega))
      rw [getD_of (by omega), getD_of (by omega)] at this
      rw [List.getElem?_eq_getElem (by omega), List.getElem?_eq_getElem (by omega), this]
    · rw [List.getElem?_eq_none (by omega), List.getElem?_eq_none (by omega)]
  have sp : ∀ q : List α, q = q.take a ++ ((q.drop a).take (b - a) ++ q.drop b) := fun q => by
    have := (List.take_append_drop a q).symm
    have h2 := (List.take_append_drop (b - a) (q.drop a)).symm
    rw [List.drop_drop, show a + (b - a) = b by omega] at h2
    rw [← h2]; exact this
  have hp := h.perm
  rw [sp l', sp l, e1, e2] at hp
  have hp2 := (List.perm_append_right_iff _).1 ((List.perm_append_left_iff _).1 hp)
  have hm : l'.getD k default ∈ (l'.drop a).take (b - a) := by
    rw [List.mem_iff_getElem?]
    refine ⟨k - a, ?_⟩
    rw [List.getElem?_take_of_lt (by omega), List.getElem?_drop, show a + (k - a) = k by omega, getD_of (by omega), List.getElem?_eq_getElem (by omega)]
  have hm2 := hp2.mem_iff.1 hm
  obtain ⟨i, hi⟩ := List.mem_iff_getElem?.1 hm2
  have hil : i < b - a := by
    have := (List.getElem?_eq_some_iff.1 hi).1
    simp at this; omega
  rw [List.getElem?_take_of_lt hil, List.getElem?_drop] at hi
  refine ⟨a + i, by omega, ?_⟩
  rw [getD_of (show a + i < l.length by omega)]
  rw [List.getElem?_eq_getElem (by omega)] at hi
  exact (Option.some.inj hi).symm
theorem PermR.wide {a b x y : Nat} {l l' : List α} (h : PermR a b l l') (hx : x ≤ a) (hy : b ≤ y) : PermR x y l l' := ⟨h.perm, fun i hi => h.out i (by omega)⟩
variable {cf : α → α → Int}
theorem SortR.keep {a b : Nat} {l l' : List α} (h : SortR cf a b l) (e : ∀ k, a ≤ k ∧ k < b → l'.getD k default = l.getD k default) : SortR cf a b l' := fun p q h1 h2 h3 => by
  rw [e p (by omega), e q (by omega)]; exact h p q h1 h2 h3
/-- two sorted halves, where all of the first one is no more than all of the second one -/
theorem SortR.join {a m b : Nat} {l l' : List α} (hl : b ≤ l.length) (hm : a ≤ m ∧ m ≤ b) (cross : ∀ x y, a ≤ x → x < m → m ≤ y → y < b → leC cf (l.getD x default) (l.getD y default))
    (p1 : ∀ k, a ≤ k ∧ k < m → ∃ k', (a ≤ k' ∧ k' < m) ∧ l'.getD k default = l.getD k' default) (p2 : ∀ k, m ≤ k ∧ k < b → ∃ k', (m ≤ k' ∧ k' < b) ∧ l'.getD k default = l.getD k' default)
    (s1 : SortR cf a m l') (s2 : SortR cf m b l') : SortR cf a b l' := fun p q h1 h2 h3 => by
  by_cases hq : q < m
  · exact s1 p q h1 h2 hq
  · by_cases hp : p < m
    · obtain ⟨p', hp', e1⟩ := p1 p ⟨h1, hp⟩
      obtain ⟨q', hq', e2⟩ := p2 q ⟨by omega, h3⟩
      rw [e1, e2]; exact cross p' q' hp'.1 hp'.2 hq'.1 hq'.2
    · exact s2 p q (by omega) h2 h3
/-- the binary search of a merge: all before s pass, none from s on -/
structure SymS (cf : α → α → Int) (l : List α) (n lo hi s : Nat) : Prop where
  rng : lo ≤ s ∧ s ≤ hi
  yes : lo < s → leC cf (l.getD (s - 1) default) (l.getD (n - s) default)
  no : s < hi → cf (l.getD (n - 1 - s) default) (l.getD s default) < 0
/-- the halves after the turn -/
theorem sym_turn (ho : Ordr cf) {a m b s : Nat} {l l' : List α} (hab : a < m ∧ m < b) (h1 : SortR cf a m l) (h2 : SortR cf m b l)
    (hs : SymS cf l ((a + b) / 2 + m) (if (a + b) / 2 < m then (a + b) / 2 + m - b else a) (if (a + b) / 2 < m then (a + b) / 2 else m) s) (hr : RotR s m ((a + b) / 2 + m - s) l l') :
    (a ≤ s ∧ s ≤ m ∧ s ≤ (a + b) / 2 ∧ m ≤ (a + b) / 2 + m - s ∧ (a + b) / 2 ≤ (a + b) / 2 + m - s ∧ (a + b) / 2 + m - s ≤ b) ∧ SortR cf a s l' ∧ SortR cf s ((a + b) / 2) l' ∧ SortR cf ((a + b) / 2) ((a + b) / 2 + m - s) l' ∧ SortR cf ((a + b) / 2 + m - s) b l' ∧
    ∀ x y, a ≤ x → x < (a + b) / 2 → (a + b) / 2 ≤ y → y < b → leC cf (l'.getD x default) (l'.getD y default) := by
  obtain ⟨rng, yes, no⟩ := hs
  have hd : 2 * ((a + b) / 2) ≤ a + b ∧ a + b ≤ 2 * ((a + b) / 2) + 1 := by omega
  generalize hmid : (a + b) / 2 = mid at *
  have B : a ≤ s ∧ s ≤ m ∧ s ≤ mid ∧ m ≤ mid + m - s ∧ mid ≤ mid + m - s ∧ mid + m - s ≤ b := by
    by_cases h : mid < m
    · rw [if_pos h, if_pos h] at rng; omega
    · rw [if_neg h, if_neg h] at rng; omega
  have lt_le : ∀ {x y : α}, cf x y < 0 → leC cf x y := fun {x y} h => by
    rcases ho.tot x y with h1 | h1
    · exact h1
    · exact absurd h h1
  -- before the turn: four pieces
  have c1 : ∀ x y, a ≤ x → x < s → s ≤ y → y < m → leC cf (l.getD x default) (l.getD y default) := fun x y _ _ _ _ => h1 x y (by omega) (by omega) (by omega)
  have c2 : ∀ x y, a ≤ x → x < s → mid + m - s ≤ y → y < b → leC cf (l.getD x default) (l.getD y default) := fun x y x1 x2 y1 y2 => by
    have hlo : (if mid < m then mid + m - b else a) < s := by split <;> omega
    have e1 := yes hlo
    have t1 : leC cf (l.getD x default) (l.getD (s - 1) default) := by
      by_cases e : x = s - 1
      · rw [e]; exact ho.rf _
      · exact h1 x (s - 1) (by omega) (by omega) (by omega)
    have t2 : leC cf (l.getD (mid + m - s) default) (l.getD y default) := by
      by_cases e : mid + m - s = y
      · rw [e]; exact ho.rf _
      · exact h2 _ y (by omega) (by omega) (by omega)
    exact ho.tr _ _ _ t1 (ho.tr _ _ _ e1 t2)
  have c3 : ∀ x y, m ≤ x → x < mid + m - s → s ≤ y → y < m → leC cf (l.getD x default) (l.getD y default) := fun x y x1 x2 y1 y2 => by
    have hhi : s < (if mid < m then mid else m) := by split <;> omega
    have e1 := lt_le (no hhi)
    have t1 : leC cf (l.getD x default) (l.getD (mid + m - 1 - s) default) := by
      by_cases e : x = mid + m - 1 - s
      · rw [e]; exact ho.rf _
      · exact h2 x _ (by omega) (by omega) (by omega)
    have t2 : leC cf (l.getD s default) (l.getD y default) := by
      by_cases e : s = y
      · rw [e]; exact ho.rf _
      · exact h1 s y (by omega) (by omega) (by omega)
    exact ho.tr _ _ _ t1 (ho.tr _ _ _ e1 t2)
  have c4 : ∀ x y, m ≤ x → x < mid + m - s → mid + m - s ≤ y → y < b → leC cf (l.getD x default) (l.getD y default) := fun x y _ _ _ _ => h2 x y (by omega) (by omega) (by omega)
  -- where things stand after the turn
  have g1 : ∀ k, k < s → l'.getD k default = l.getD k default := fun k hk => by rw [hr k, if_neg (by omega)]
  have g2 : ∀ k, s ≤ k → k < mid → l'.getD k default = l.getD (k + (m - s)) default := fun k _ _ => by rw [hr k, if_pos (by omega), if_pos (by omega)]
  have g3 : ∀ k, mid ≤ k → k < mid + m - s → l'.getD k default = l.getD (k - (mid + m - s - m)) default := fun k _ _ => by rw [hr k, if_pos (by omega), if_neg (by omega)]
  have g4 : ∀ k, mid + m - s ≤ k → l'.getD k default = l.getD k default := fun k hk => by rw [hr k, if_neg (by omega)]
  refine ⟨B, fun p q p1 p2 p3 => ?_, fun p q p1 p2 p3 => ?_, fun p q p1 p2 p3 => ?_, fun p q p1 p2 p3 => ?_, fun x y x1 x2 y1 y2 => ?_⟩
  · rw [g1 p (by omega), g1 q (by omega)]; exact h1 p q (by omega) p2 (by omega)
  · rw [g2 p (by omega) (by omega), g2 q (by omega) (by omega)]; exact h2 _ _ (by omega) (by omega) (by omega)
  · rw [g3 p (by omega) (by omega), g3 q (by omega) (by omega)]; exact h1 _ _ (by omega) (by omega) (by omega)
  · rw [g4 p (by omega), g4 q (by omega)]; exact h2 p q (by omega) p2 (by omega)
  · by_cases hx : x < s
    · rw [g1 x hx]
      by_cases hy : y < mid + m - s
      · rw [g3 y (by omega) hy]; exact c1 _ _ (by omega) hx (by omega) (by omega)
      · rw [g4 y (by omega)]; exact c2 _ _ (by omega) hx (by omega) y2
    · rw [g2 x (by omega) x2]
      by_cases hy : y < mid + m - s
      · rw [g3 y (by omega) hy]; exact c3 _ _ (by omega) (by omega) (by omega) (by omega)
      · rw [g4 y (by omega)]; exact c4 _ _ (by omega) (by omega) (by omega) y2
theorem SymS.box {a m b s : Nat} {l : List α} (hab : a < m ∧ m < b) (h : SymS cf l ((a + b) / 2 + m) (if (a + b) / 2 < m then (a + b) / 2 + m - b else a) (if (a + b) / 2 < m then (a + b) / 2 else m) s) :
    a ≤ s ∧ s ≤ m ∧ s ≤ (a + b) / 2 ∧ m ≤ (a + b) / 2 + m - s ∧ (a + b) / 2 ≤ (a + b) / 2 + m - s ∧ (a + b) / 2 + m - s ≤ b := by
  obtain ⟨rng, _, _⟩ := h
  have hd : 2 * ((a + b) / 2) ≤ a + b ∧ a + b ≤ 2 * ((a + b) / 2) + 1 := by omega
  generalize (a + b) / 2 = mid at *
  by_cases h : mid < m
  · rw [if_pos h, if_pos h] at rng; omega
  · rw [if_neg h, if_neg h] at rng; omega
/-- one at the front moves behind those that are less -/
theorem sort_front (ho : Ordr cf) {a b i : Nat} {l l' : List α} (h2 : SortR cf (a + 1) b l) (hi : a + 1 ≤ i ∧ i ≤ b) (hl : a + 1 < i → cf (l.getD (i - 1) default) (l.getD a default) < 0) (hg : i < b → leC cf (l.getD a default) (l.getD i default)) (hr : RotR a (a + 1) i l l') : SortR cf a b l' := by
  have lt_le : ∀ {x y : α}, cf x y < 0 → leC cf x y := fun {x y} h => by
    rcases ho.tot x y with h1 | h1
    · exact h1
    · exact absurd h h1
  have g1 : ∀ k, a ≤ k → k < i - 1 → l'.getD k default = l.getD (k + 1) default := fun k _ _ => by
    rw [hr k, if_pos (by omega), if_pos (by omega)]; congr 1; omega
  have g2 : l'.getD (i - 1) default = l.getD a default := by
    rw [hr, if_pos (by omega), if_neg (by omega)]; congr 1; omega
  have g3 : ∀ k, i ≤ k → l'.getD k default = l.getD k default := fun k _ => by rw [hr k, if_neg (by omega)]
  have lo : ∀ k, a + 1 ≤ k → k < i → leC cf (l.getD k default) (l.getD a default) := fun k k1 k2 => by
    have e := lt_le (hl (by omega))
    by_cases h : k = i - 1
    · rw [h]; exact e
    · exact ho.tr _ _ _ (h2 k (i - 1) k1 (by omega) (by omega)) e
  have hi2 : ∀ k, i ≤ k → k < b → leC cf (l.getD a default) (l.getD k default) := fun k k1 k2 => by
    have e := hg (by omega)
    by_cases h : k = i
    · rw [h]; exact e
    · exact ho.tr _ _ _ e (h2 i k (by omega) (by omega) k2)
  intro p q p1 p2 p3
  by_cases hp : p < i - 1
  · rw [g1 p p1 hp]
    by_cases hq : q < i - 1
    · rw [g1 q (by omega) hq]; exact h2 _ _ (by omega) (by omega) (by omega)
    · by_cases hq2 : q = i - 1
      · rw [hq2, g2]; exact lo _ (by omega) (by omega)
      · rw [g3 q (by omega)]; exact h2 _ _ (by omega) (by omega) p3
  · by_cases hp2 : p = i - 1
    · rw [hp2, g2, g3 q (by omega)]; exact hi2 q (by omega) p3
    · rw [g3 p (by omega), g3 q (by omega)]; exact h2 p q (by omega) p2 p3
/-- one at the end moves ahead of those that are more -/
theorem sort_back (ho : Ordr cf) {a m i : Nat} {l l' : List α} (h1 : SortR cf a m l) (hi : a ≤ i ∧ i ≤ m) (hl : a < i → leC cf (l.getD (i - 1) default) (l.getD m default)) (hg : i < m → cf (l.getD m default) (l.getD i default) < 0) (hr : RotR i m (m + 1) l l') : SortR cf a (m + 1) l' := by
  have lt_le : ∀ {x y : α}, cf x y < 0 → leC cf x y := fun {x y} h => by
    rcases ho.tot x y with h1 | h1
    · exact h1
    · exact absurd h h1
  have g1 : ∀ k, k < i → l'.getD k default = l.getD k default := fun k _ => by rw [hr k, if_neg (by omega)]
  have g2 : l'.getD i default = l.getD m default := by
    rw [hr, if_pos (by omega), if_pos (by omega)]; congr 1; omega
  have g3 : ∀ k, i < k → k ≤ m → l'.getD k default = l.getD (k - 1) default := fun k _ _ => by
    rw [hr k, if_pos (by omega), if_neg (by omega)]; congr 1; omega
  have lo : ∀ k, a ≤ k → k < i → leC cf (l.getD k default) (l.getD m default) := fun k k1 k2 => by
    have e := hl (by omega)
    by_cases h : k = i - 1
    · rw [h]; exact e
    · exact ho.tr _ _ _ (h1 k (i - 1) k1 (by omega) (by omega)) e
  have hi2 : ∀ k, i ≤ k → k < m → leC cf (l.getD m default) (l.getD k default) := fun k k1 k2 => by
    have e := lt_le (hg (by omega))
    by_cases h : k = i
    · rw [h]; exact e
    · exact ho.tr _ _ _ e (h1 i k (by omega) (by omega) k2)
  intro p q p1 p2 p3
  by_cases hp : p < i
  · rw [g1 p hp]
    by_cases hq : q < i
    · rw [g1 q hq]; exact h1 p q p1 p2 (by omega)
    · by_cases hq2 : q = i
      · rw [hq2, g2]; exact lo p p1 hp
      · rw [g3 q (by omega) (by omega)]; exact h1 _ _ p1 (by omega) (by omega)
  · by_cases hp2 : p = i
    · rw [hp2, g2, g3 q (by omega) (by omega)]; exact hi2 _ (by omega) (by omega)
    · rw [g3 p (by omega) (by omega), g3 q (by omega) (by omega)]; exact h1 _ _ (by omega) (by omega) (by omega)
/-- swaps of neighbours, upwards -/
def shU (l : List α) (a : Nat) : Nat → List α
  | 0 => l
  | n + 1 => swp (shU l a n) (a + n) (a + n + 1)
theorem shU_len {l : List α} {a : Nat} : ∀ {n : Nat}, (shU l a n).length = l.length
  | 0 => rfl
  | n + 1 => by rw [shU, swp_len, shU_len]
theorem shU_get {l : List α} {a : Nat} : ∀ {n : Nat}, a + n < l.length → ∀ k, (shU l a n).getD k default = if a ≤ k ∧ k < a + n then l.getD (k + 1) default else if k = a + n then l.getD a default else l.getD k default
  | 0, _, k => by
    simp only [shU]
    repeat' split
    all_goals first | rfl | (exfalso; omega) | (exact congrArg (fun z => List.getD _ z default) (by omega))
  | n + 1, h, k => by
    have ih := shU_get (l := l) (a := a) (n := n) (by omega)
    rw [shU, swp_get (by rw [shU_len]; omega) (by rw [shU_len]; omega)]
    have i1 : (shU l a n).getD (a + n) default = l.getD a default := by rw [ih, if_neg (by omega), if_pos rfl]
    have i2 : (shU l a n).getD (a + n + 1) default = l.getD (a + n + 1) default := by rw [ih, if_neg (by omega), if_neg (by omega)]
    rw [i1, i2, ih k]
    repeat' split
    all_goals first | rfl | (exfalso; omega) | (exact congrArg (fun z => List.getD _ z default) (by omega))
theorem shU_perm {l : List α} {a x y : Nat} (hx : x ≤ a) : ∀ {n : Nat}, a + n < y → y ≤ l.length → PermR x y l (shU l a n)
  | 0, _, _ => PermR.refl
  | n + 1, h1, h2 => (shU_perm hx (by omega) h2).trans (swp_perm ⟨by omega, by omega⟩ ⟨by omega, by omega⟩ (by rw [shU_len]; exact h2))
theorem shU_rot {l : List α} {a i : Nat} (hi : a + 1 ≤ i) (hl : i ≤ l.length) : RotR a (a + 1) i l (shU l a (i - (a + 1))) := fun k => by
  rw [shU_get (by omega)]
  repeat' split
  all_goals first | rfl | (exfalso; omega) | (exact congrArg (fun z => List.getD _ z default) (by omega))
/-- swaps of neighbours, downwards -/
def shD (l : List α) (m : Nat) : Nat → List α
  | 0 => l
  | n + 1 => swp (shD l m n) (m - n) (m - n - 1)
theorem shD_len {l : List α} {m : Nat} : ∀ {n : Nat}, (shD l m n).length = l.length
  | 0 => rfl
  | n + 1 => by rw [shD, swp_len, shD_len]
theorem shD_get {l : List α} {m : Nat} (hm : m < l.length) : ∀ {n : Nat}, n ≤ m → ∀ k, (shD l m n).getD k default = if m - n < k ∧ k ≤ m then l.getD (k - 1) default else if k = m - n then l.getD m default else l.getD k default
  | 0, _, k => by
    simp only [shD]
    repeat' split
    all_goals first | rfl | (exfalso; omega) | (exact congrArg (fun z => List.getD _ z default) (by omega))
  | n + 1, h, k => by
    have ih := shD_get hm (n := n) (by omega)
    rw [shD, swp_get (by rw [shD_len]; omega) (by rw [shD_len]; omega)]
    have i1 : (shD l m n).getD (m - n) default = l.getD m default := by rw [ih, if_neg (by omega), if_pos rfl]
    have i2 : (shD l m n).getD (m - n - 1) default = l.getD (m - n - 1) default := by rw [ih, if_neg (by omega), if_neg (by omega)]
    rw [i1, i2, ih k]
    repeat' split
    all_goals first | rfl | (exfalso; omega) | (exact congrArg (fun z => List.getD _ z default) (by omega))
theorem shD_perm {l : List α} {m x y : Nat} (hm : m < y) (hy : y ≤ l.length) : ∀ {n : Nat}, x + n ≤ m → PermR x y l (shD l m n)
  | 0, _ => PermR.refl
  | n + 1, h1 => (shD_perm hm hy (by omega)).trans (swp_perm ⟨by omega, by omega⟩ ⟨by omega, by omega⟩ (by rw [shD_len]; exact hy))
theorem shD_rot {l : List α} {m i : Nat} (hi : i ≤ m) (hm : m < l.length) : RotR i m (m + 1) l (shD l m (m - i)) := fun k => by
  rw [shD_get hm (by omega)]
  repeat' split
  all_goals first | rfl | (exfalso; omega) | (exact congrArg (fun z => List.getD _ z default) (by omega))
/-- sorted runs of w each, one behind the other -/
inductive Pr (cf : α → α → Int) (l : List α) (w : Nat) : Nat → Nat → Prop
  | nil {a : Nat} : Pr cf l w a a
  | snoc {a b : Nat} : Pr cf l w a b → SortR cf b (b + w) l → Pr cf l w a (b + w)
/-- such runs up to n, the last one may be shorter -/
inductive Rn (cf : α → α → Int) (l : List α) (w n : Nat) : Nat → Prop
  | last {a : Nat} : n ≤ a + w → SortR cf a n l → Rn cf l w n a
  | more {a : Nat} : a + w ≤ n → SortR cf a (a + w) l → Rn cf l w n (a + w) → Rn cf l w n a
theorem Pr.le {l : List α} {w a b : Nat} (h : Pr cf l w a b) : a ≤ b := by
  induction h with
  | nil => exact Nat.le_refl _
  | snoc _ _ ih => omega
theorem Pr.keep {l l' : List α} {w a b : Nat} (h : Pr cf l w a b) (e : ∀ k, k < b → l'.getD k default = l.getD k default) : Pr cf l' w a b := by
  induction h with
  | nil => exact .nil
  | snoc h1 h2 ih => exact .snoc (ih fun k hk => e k (by omega)) (h2.keep fun k hk => e k (by omega))
theorem Rn.keep {l l' : List α} {w n a : Nat} (h : Rn cf l w n a) (e : ∀ k, a ≤ k → l'.getD k default = l.getD k default) : Rn cf l' w n a := by
  induction h with
  | last h1 h2 => exact .last h1 (h2.keep fun k hk => e k hk.1)
  | more h1 h2 h3 ih => exact .more h1 (h2.keep fun k hk => e k hk.1) (ih fun k hk => e k (by omega))
theorem Pr.glue {l : List α} {w n a b : Nat} (h : Pr cf l w a b) (k : Rn cf l w n b) (hb : b ≤ n) : Rn cf l w n a := by
  induction h with
  | nil => exact k
  | snoc h1 h2 ih => exact ih (.more hb h2 k) (by omega)
theorem sort_one {l : List α} {n a : Nat} (h : n ≤ a + 1) : SortR cf a n l := fun p q h1 h2 h3 => by omega
theorem Rn.two {l : List α} {w n a : Nat} (h : Rn cf l w n a) (hw : 0 < w) (hn : a + 2 * w ≤ n) : SortR cf a (a + w) l ∧ SortR cf (a + w) (a + 2 * w) l ∧ Rn cf l w n (a + 2 * w) := by
  have e : a + w + w = a + 2 * w := by omega
  cases h with
  | last h1 h2 => omega
  | more h1 h2 h3 =>
    cases h3 with
    | last k1 k2 =>
      have : n = a + 2 * w := by omega
      subst this
      exact ⟨h2, k2, .last (by omega) (sort_one (by omega))⟩
    | more k1 k2 k3 => rw [e] at k2 k3; exact ⟨h2, k2, k3⟩
theorem Rn.end2 {l : List α} {w n a : Nat} (h : Rn cf l w n a) (hn : n < a + 2 * w) (hm : a + w < n) : SortR cf a (a + w) l ∧ SortR cf (a + w) n l := by
  cases h with
  | last h1 h2 => omega
  | more h1 h2 h3 =>
    cases h3 with
    | last k1 k2 => exact ⟨h2, k2⟩
    | more k1 k2 k3 => omega
theorem Rn.end1 {l : List α} {w n a : Nat} (h : Rn cf l w n a) (hm : n ≤ a + w) : SortR cf a n l := by
  cases h with
  | last h1 h2 => exact h2
  | more h1 h2 h3 => have : n = a + w := by omega
                     subst this; exact h2
end
end Go.Proofs.Ytkmcdiajcnejiaa.Vm
