/- Sorting, pure: quicksort (partition, heaps, what is done and what is not). -/
import Derived.Test.YtkmcdiajcnejiaaSrP
namespace Go.Proofs.Ytkmcdiajcnejiaa.Vm
open Go
set_option maxRecDepth 100000
set_option linter.unusedSimpArgs false
set_option linter.unusedVariables false
attribute [-simp] List.getD_eq_getElem?_getD

section
variable {α : Type} [Inhabited α] {cf : α → α → Int}
omit [Inhabited α] in
theorem Ordr.lt (ho : Ordr cf) {x y : α} (h : cf x y < 0) : leC cf x y := by
  rcases ho.tot x y with h1 | h1
  · exact h1
  · exact absurd h h1
theorem getD_same {l l' : List α} (h : ∀ i, l'.getD i default = l.getD i default) (k : Nat) : l'.getD k default = l.getD k default := h k
/-- amid a quicksort: what is not both inside of a .. b stands in its order -/
structure OutR (cf : α → α → Int) (a0 b0 a b : Nat) (l : List α) : Prop where
  rng : a0 ≤ a ∧ a ≤ b ∧ b ≤ b0
  le : ∀ p q, a0 ≤ p → p < q → q < b0 → (p < a ∨ b ≤ q) → leC cf (l.getD p default) (l.getD q default)
theorem OutR.start {a b : Nat} {l : List α} (h : a ≤ b) : OutR cf a b a b l := ⟨by omega, fun p q h1 h2 h3 h4 => by omega⟩
theorem OutR.sort {a0 b0 a b : Nat} {l : List α} (h : OutR cf a0 b0 a b l) (hs : SortR cf a b l) : SortR cf a0 b0 l := fun p q h1 h2 h3 => by
  by_cases e : p < a ∨ b ≤ q
  · exact h.le p q h1 h2 h3 e
  · exact hs p q (by omega) h2 (by omega)
theorem OutR.perm {a0 b0 a b : Nat} {l l' : List α} (h : OutR cf a0 b0 a b l) (hp : PermR a b l l') (hb : b0 ≤ l.length) : OutR cf a0 b0 a b l' := by
  have hr := h.rng
  refine ⟨hr, fun p q h1 h2 h3 h4 => ?_⟩
  by_cases e1 : a ≤ p ∧ p < b
  · obtain ⟨p', hp', ep⟩ := hp.mem (by omega) e1
    rw [ep, hp.out q (by omega)]
    exact h.le p' q (by omega) (by omega) h3 (by omega)
  · rw [hp.out p (by omega)]
    by_cases e2 : a ≤ q ∧ q < b
    · obtain ⟨q', hq', eq⟩ := hp.mem (by omega) e2
      rw [eq]
      exact h.le p q' h1 (by omega) (by omega) (by omega)
    · rw [hp.out q (by omega)]
      exact h.le p q h1 h2 h3 h4
/-- what stands ahead of a range is no more than what is in it -/
def GdR (cf : α → α → Int) (a b : Nat) (l : List α) : Prop := 0 < a → ∀ k, a ≤ k → k < b → leC cf (l.getD (a - 1) default) (l.getD k default)
theorem GdR.perm {a b x y : Nat} {l l' : List α} (h : GdR cf a b l) (hp : PermR x y l l') (hx : a ≤ x) (hy : y ≤ b) (hb : b ≤ l.length) : GdR cf a b l' := fun h0 k h1 h2 => by
  rw [hp.out (a - 1) (by omega)]
  by_cases e : x ≤ k ∧ k < y
  · obtain ⟨k', hk', ek⟩ := hp.mem (by omega) e
    rw [ek]; exact h h0 k' (by omega) (by omega)
  · rw [hp.out k (by omega)]; exact h h0 k h1 h2
theorem GdR.less {a b b' : Nat} {l : List α} (h : GdR cf a b l) (hb : b' ≤ b) : GdR cf a b' l := fun h0 k h1 h2 => h h0 k h1 (by omega)
theorem OutR.guard {a0 b0 a b : Nat} {l : List α} (h : OutR cf a0 b0 a b l) (ha : a0 < a) : GdR cf a b l := fun h0 k h1 h2 => h.le (a - 1) k (by omega) (by omega) (by have := h.rng; omega) (by omega)
structure PartR (cf : α → α → Int) (a b m : Nat) (l : List α) : Prop where
  rng : a ≤ m ∧ m < b
  lo : ∀ k, a ≤ k → k < m → leC cf (l.getD k default) (l.getD m default)
  hi : ∀ k, m < k → k < b → leC cf (l.getD m default) (l.getD k default)
theorem PartR.permL {a b m : Nat} {l l' : List α} (h : PartR cf a b m l) (hp : PermR a m l l') (hb : b ≤ l.length) : PartR cf a b m l' := by
  have hr := h.rng
  refine ⟨hr, fun k h1 h2 => ?_, fun k h1 h2 => ?_⟩
  · obtain ⟨k', hk', ek⟩ := hp.mem (by omega) ⟨h1, h2⟩
    rw [ek, hp.out m (by omega)]; exact h.lo k' (by omega) (by omega)
  · rw [hp.out m (by omega), hp.out k (by omega)]; exact h.hi k h1 h2
theorem PartR.permH {a b m : Nat} {l l' : List α} (h : PartR cf a b m l) (hp : PermR (m + 1) b l l') (hb : b ≤ l.length) : PartR cf a b m l' := by
  have hr := h.rng
  refine ⟨hr, fun k h1 h2 => ?_, fun k h1 h2 => ?_⟩
  · rw [hp.out m (by omega), hp.out k (by omega)]; exact h.lo k h1 h2
  · obtain ⟨k', hk', ek⟩ := hp.mem (by omega) ⟨h1, h2⟩
    rw [ek, hp.out m (by omega)]; exact h.hi k' (by omega) (by omega)
theorem OutR.left (ho : Ordr cf) {a0 b0 a b m : Nat} {l l' : List α} (h : OutR cf a0 b0 a b l) (hm : PartR cf a b m l) (hp : PermR a m l l') (hs : SortR cf a m l') (hb : b0 ≤ l.length) : OutR cf a0 b0 (m + 1) b l' := by
  have hr := h.rng
  have hr2 := hm.rng
  have h' := h.perm (hp.wide (Nat.le_refl _) (by omega)) hb
  have hm' := hm.permL hp (by omega)
  refine ⟨by omega, fun p q h1 h2 h3 h4 => ?_⟩
  by_cases e : p < a ∨ b ≤ q
  · exact h'.le p q h1 h2 h3 e
  · by_cases e1 : q < m
    · exact hs p q (by omega) h2 e1
    · by_cases e2 : q = m
      · subst e2; exact hm'.lo p (by omega) h2
      · by_cases e3 : p = m
        · subst e3; exact hm'.hi q h2 (by omega)
        · exact ho.tr _ _ _ (hm'.lo p (by omega) (by omega)) (hm'.hi q (by omega) (by omega))
theorem OutR.right (ho : Ordr cf) {a0 b0 a b m : Nat} {l l' : List α} (h : OutR cf a0 b0 a b l) (hm : PartR cf a b m l) (hp : PermR (m + 1) b l l') (hs : SortR cf (m + 1) b l') (hb : b0 ≤ l.length) : OutR cf a0 b0 a m l' := by
  have hr := h.rng
  have hr2 := hm.rng
  have h' := h.perm (hp.wide (by omega) (Nat.le_refl _)) hb
  have hm' := hm.permH hp (by omega)
  refine ⟨by omega, fun p q h1 h2 h3 h4 => ?_⟩
  by_cases e : p < a ∨ b ≤ q
  · exact h'.le p q h1 h2 h3 e
  · by_cases e1 : m < p
    · exact hs p q (by omega) h2 (by omega)
    · by_cases e2 : q = m
      · subst e2; exact hm'.lo p (by omega) h2
      · by_cases e3 : p = m
        · subst e3; exact hm'.hi q h2 (by omega)
        · exact ho.tr _ _ _ (hm'.lo p (by omega) (by omega)) (hm'.hi q (by omega) (by omega))
theorem OutR.equal {a0 b0 a b m : Nat} {l : List α} (h : OutR cf a0 b0 a b l) (hm : a ≤ m ∧ m ≤ b) (he : ∀ p q, a ≤ p → p < m → p < q → q < b → leC cf (l.getD p default) (l.getD q default)) : OutR cf a0 b0 m b l := by
  have hr := h.rng
  refine ⟨by omega, fun p q h1 h2 h3 h4 => ?_⟩
  by_cases e : p < a ∨ b ≤ q
  · exact h.le p q h1 h2 h3 e
  · exact he p q (by omega) (by omega) h2 (by omega)
/-- amid a partition about what stands at a -/
structure PtI (cf : α → α → Int) (a b i j : Nat) (l : List α) : Prop where
  rng : a + 1 ≤ i ∧ i ≤ j + 1 ∧ j < b
  lo : ∀ k, a + 1 ≤ k → k < i → cf (l.getD k default) (l.getD a default) < 0
  hi : ∀ k, j < k → k < b → leC cf (l.getD a default) (l.getD k default)
theorem PtI.start {a b : Nat} {l : List α} (h : a + 1 ≤ b) : PtI cf a b (a + 1) (b - 1) l := ⟨by omega, fun k h1 h2 => by omega, fun k h1 h2 => by omega⟩
theorem PtI.up {a b i j : Nat} {l : List α} (h : PtI cf a b i j l) (hi : i ≤ j) (hc : cf (l.getD i default) (l.getD a default) < 0) : PtI cf a b (i + 1) j l := by
  have hr := h.rng
  refine ⟨by omega, fun k h1 h2 => ?_, h.hi⟩
  by_cases e : k = i
  · subst e; exact hc
  · exact h.lo k h1 (by omega)
theorem PtI.down {a b i j : Nat} {l : List α} (h : PtI cf a b i j l) (hi : i ≤ j) (hc : ¬ cf (l.getD j default) (l.getD a default) < 0) : PtI cf a b i (j - 1) l := by
  have hr := h.rng
  refine ⟨by omega, h.lo, fun k h1 h2 => ?_⟩
  by_cases e : k = j
  · subst e; exact hc
  · exact h.hi k (by omega) h2
theorem PtI.swap (ho : Ordr cf) {a b i j : Nat} {l : List α} (h : PtI cf a b i j l) (hi : i ≤ j) (hl : b ≤ l.length) (h1 : ¬ cf (l.getD i default) (l.getD a default) < 0) (h2 : cf (l.getD j default) (l.getD a default) < 0) : PtI cf a b (i + 1) (j - 1) (swp l i j) := by
  have hr := h.rng
  have hne : i ≠ j := fun e => by subst e; exact h1 h2
  have g : ∀ k, (swp l i j).getD k default = if k = j then l.getD i default else if k = i then l.getD j default else l.getD k default := fun k => swp_get (by omega) (by omega)
  have ga : (swp l i j).getD a default = l.getD a default := by rw [g, if_neg (by omega), if_neg (by omega)]
  refine ⟨by omega, fun k k1 k2 => ?_, fun k k1 k2 => ?_⟩
  · rw [ga, g, if_neg (by omega)]
    by_cases e : k = i
    · rw [if_pos e]; exact h2
    · rw [if_neg e]; exact h.lo k k1 (by omega)
  · rw [ga, g]
    by_cases e : k = j
    · rw [if_pos e]; exact h1
    · rw [if_neg e, if_neg (by omega)]; exact h.hi k (by omega) k2
theorem PtI.done (ho : Ordr cf) {a b i j : Nat} {l : List α} (h : PtI cf a b i j l) (hi : ¬ i ≤ j) (hl : b ≤ l.length) : PartR cf a b j (swp l j a) := by
  have hr := h.rng
  have g : ∀ k, (swp l j a).getD k default = if k = a then l.getD j default else if k = j then l.getD a default else l.getD k default := fun k => swp_get (by omega) (by omega)
  have gj : (swp l j a).getD j default = l.getD a default := by
    rw [g]
    by_cases e : j = a
    · rw [if_pos e, e]
    · rw [if_neg e, if_pos rfl]
  refine ⟨by omega, fun k k1 k2 => ?_, fun k k1 k2 => ?_⟩
  · rw [gj, g]
    by_cases e : k = a
    · rw [if_pos e]; exact ho.lt (h.lo j (by omega) (by omega))
    · rw [if_neg e, if_neg (by omega)]; exact ho.lt (h.lo k (by omega) (by omega))
  · rw [gj, g, if_neg (by omega), if_neg (by omega)]; exact h.hi k (by omega) k2
/-- amid a partition into what equals the one at a, and what is more -/
structure PeI (cf : α → α → Int) (a b i j : Nat) (l : List α) : Prop where
  rng : a + 1 ≤ i ∧ i ≤ j + 1 ∧ j < b
  lo : ∀ k, a + 1 ≤ k → k < i → leC cf (l.getD k default) (l.getD a default)
  mn : ∀ k, a ≤ k → k < b → leC cf (l.getD a default) (l.getD k default)
theorem PeI.start {a b : Nat} {l : List α} (h : a + 1 ≤ b) (mn : ∀ k, a ≤ k → k < b → leC cf (l.getD a default) (l.getD k default)) : PeI cf a b (a + 1) (b - 1) l := ⟨by omega, fun k h1 h2 => by omega, mn⟩
theorem PeI.up {a b i j : Nat} {l : List α} (h : PeI cf a b i j l) (hi : i ≤ j) (hc : ¬ cf (l.getD a default) (l.getD i default) < 0) : PeI cf a b (i + 1) j l := by
  have hr := h.rng
  refine ⟨by omega, fun k h1 h2 => ?_, h.mn⟩
  by_cases e : k = i
  · subst e; exact hc
  · exact h.lo k h1 (by omega)
theorem PeI.down {a b i j : Nat} {l : List α} (h : PeI cf a b i j l) (hi : i ≤ j) : PeI cf a b i (j - 1) l := by
  have hr := h.rng
  exact ⟨by omega, h.lo, h.mn⟩
theorem PeI.swap (ho : Ordr cf) {a b i j : Nat} {l : List α} (h : PeI cf a b i j l) (hi : i ≤ j) (hl : b ≤ l.length) (h1 : cf (l.getD a default) (l.getD i default) < 0) (h2 : ¬ cf (l.getD a default) (l.getD j default) < 0) : PeI cf a b (i + 1) (j - 1) (swp l i j) := by
  have hr := h.rng
  have hne : i ≠ j := fun e => by subst e; exact h2 h1
  have g : ∀ k, (swp l i j).getD k default = if k = j then l.getD i default else if k = i then l.getD j default else l.getD k default := fun k => swp_get (by omega) (by omega)
  have ga : (swp l i j).getD a default = l.getD a default := by rw [g, if_neg (by omega), if_neg (by omega)]
  refine ⟨by omega, fun k k1 k2 => ?_, fun k k1 k2 => ?_⟩
  · rw [ga, g, if_neg (by omega)]
    by_cases e : k = i
    · rw [if_pos e]; exact h2
    · rw [if_neg e]; exact h.lo k k1 (by omega)
  · rw [ga, g]
    by_cases e : k = j
    · rw [if_pos e]; exact h.mn i (by omega) (by omega)
    · rw [if_neg e]
      by_cases e2 : k = i
      · rw [if_pos e2]; exact h.mn j (by omega) (by omega)
      · rw [if_neg e2]; exact h.mn k k1 k2
theorem PeI.done (ho : Ordr cf) {a b i j : Nat} {l : List α} (h : PeI cf a b i j l) : ∀ p q, a ≤ p → p < i → p < q → q < b → leC cf (l.getD p default) (l.getD q default) := fun p q h1 h2 h3 h4 => by
  by_cases e : p = a
  · subst e; exact h.mn q (by omega) h4
  · exact ho.tr _ _ _ (h.lo p (by omega) h2) (h.mn q (by omega) h4)
/-- a heap from lo on -/
def HpR (cf : α → α → Int) (f lo hi : Nat) (l : List α) : Prop := ∀ c, 0 < c → c < hi → lo ≤ (c - 1) / 2 → leC cf (l.getD (f + c) default) (l.getD (f + (c - 1) / 2) default)
structure SfI (cf : α → α → Int) (f lo hi r : Nat) (l : List α) : Prop where
  rng : lo ≤ r
  up : ∀ c, 0 < c → c < hi → lo ≤ (c - 1) / 2 → (c - 1) / 2 ≠ r → leC cf (l.getD (f + c) default) (l.getD (f + (c - 1) / 2) default)
  thru : ∀ c, 0 < c → c < hi → (c - 1) / 2 = r → 0 < r → lo ≤ (r - 1) / 2 → leC cf (l.getD (f + c) default) (l.getD (f + (r - 1) / 2) default)
theorem SfI.start {f lo hi : Nat} {l : List α} (h : HpR cf f (lo + 1) hi l) : SfI cf f lo hi lo l :=
  ⟨Nat.le_refl _, fun c h1 h2 h3 h4 => h c h1 h2 (by omega), fun c h1 h2 h3 h4 h5 => by omega⟩
theorem SfI.end1 {f lo hi r : Nat} {l : List α} (h : SfI cf f lo hi r l) (hc : hi ≤ 2 * r + 1) : HpR cf f lo hi l := fun c h1 h2 h3 => h.up c h1 h2 h3 (by omega)
/-- the greater child -/
structure ChR (cf : α → α → Int) (f hi r c : Nat) (l : List α) : Prop where
  rng : c < hi ∧ 0 < c ∧ (c - 1) / 2 = r
  mx : ∀ d, 0 < d → d < hi → (d - 1) / 2 = r → leC cf (l.getD (f + d) default) (l.getD (f + c) default)
theorem ChR.one (ho : Ordr cf) {f hi r : Nat} {l : List α} (h : 2 * r + 1 < hi) (hc : ¬ (2 * r + 1 + 1 < hi ∧ cf (l.getD (f + (2 * r + 1)) default) (l.getD (f + (2 * r + 1 + 1)) default) < 0)) : ChR cf f hi r (2 * r + 1) l := by
  refine ⟨by omega, fun d h1 h2 h3 => ?_⟩
  have : d = 2 * r + 1 ∨ d = 2 * r + 2 := by omega
  rcases this with e | e
  · rw [e]; exact ho.rf _
  · subst e
    intro hx
    exact hc ⟨h2, hx⟩
theorem ChR.two (ho : Ordr cf) {f hi r : Nat} {l : List α} (h : 2 * r + 1 + 1 < hi) (hc : cf (l.getD (f + (2 * r + 1)) default) (l.getD (f + (2 * r + 1 + 1)) default) < 0) : ChR cf f hi r (2 * r + 1 + 1) l := by
  refine ⟨by omega, fun d h1 h2 h3 => ?_⟩
  have : d = 2 * r + 1 ∨ d = 2 * r + 1 + 1 := by omega
  rcases this with e | e
  · rw [e]; exact ho.lt hc
  · rw [e]; exact ho.rf _
theorem SfI.end2 (ho : Ordr cf) {f lo hi r c : Nat} {l : List α} (h : SfI cf f lo hi r l) (hc : ChR cf f hi r c l) (hn : ¬ cf (l.getD (f + r) default) (l.getD (f + c) default) < 0) : HpR cf f lo hi l := fun d h1 h2 h3 => by
  by_cases e : (d - 1) / 2 = r
  · rw [e]; exact ho.tr _ _ _ (hc.mx d h1 h2 e) hn
  · exact h.up d h1 h2 h3 e
theorem SfI.step (ho : Ordr cf) {f lo hi r c : Nat} {l : List α} (h : SfI cf f lo hi r l) (hc : ChR cf f hi r c l) (hl : f + hi ≤ l.length) (hn : cf (l.getD (f + r) default) (l.getD (f + c) default) < 0) : SfI cf f lo hi c (swp l (f + r) (f + c)) := by
  have hr := h.rng
  have hcr := hc.rng
  have hrc : r < c := by omega
  have g : ∀ k, (swp l (f + r) (f + c)).getD (f + k) default = if k = c then l.getD (f + r) default else if k = r then l.getD (f + c) default else l.getD (f + k) default := fun k => by
    rw [swp_get (by omega) (by omega)]
    by_cases e1 : k = c
    · rw [if_pos (by omega), if_pos e1]
    · rw [if_neg (by omega), if_neg e1]
      by_cases e2 : k = r
      · rw [if_pos (by omega), if_pos e2]
      · rw [if_neg (by omega), if_neg e2]
  refine ⟨by omega, fun d h1 h2 h3 h4 => ?_, fun d h1 h2 h3 h4 h5 => ?_⟩
  · rw [g, g ((d - 1) / 2), if_neg h4]
    by_cases e : (d - 1) / 2 = r
    · rw [if_pos e]
      by_cases e1 : d = c
      · rw [if_pos e1]; exact ho.lt hn
      · rw [if_neg e1, if_neg (by omega)]; exact hc.mx d h1 h2 e
    · rw [if_neg e, if_neg (show ¬ d = c from fun e' => e (by rw [e']; exact hcr.2.2))]
      by_cases e1 : d = r
      · rw [if_pos e1]
        have := h.thru c hcr.2.1 hcr.1 hcr.2.2 (by omega) (by rw [← e1]; exact h3)
        rw [e1]; exact this
      · rw [if_neg e1]; exact h.up d h1 h2 h3 e
  · rw [g, g ((c - 1) / 2), if_neg (by omega), if_neg (by omega), if_neg (by omega), if_pos hcr.2.2]
    have := h.up d h1 h2 (by omega) (by omega)
    rw [h3] at this; exact this
theorem HpR.top (ho : Ordr cf) {f n : Nat} {l : List α} (h : HpR cf f 0 n l) : ∀ k, k < n → leC cf (l.getD (f + k) default) (l.getD f default) := by
  intro k
  induction k using Nat.strongRecOn with
  | ind k ih =>
    intro hk
    by_cases e : k = 0
    · subst e; exact ho.rf _
    · exact ho.tr _ _ _ (h k (by omega) hk (Nat.zero_le _)) (ih ((k - 1) / 2) (by omega) (by omega))
theorem HpR.none {f n : Nat} {l : List α} : HpR cf f ((n - 1) / 2 + 1) n l := fun c h1 h2 h3 => by omega
/-- the greatest goes to the end -/
theorem HpR.pop (ho : Ordr cf) {f n b : Nat} {l : List α} (h : HpR cf f 0 (n + 1) l) (hO : OutR cf f b f (f + (n + 1)) l) (hl : b ≤ l.length) : HpR cf f 1 n (swp l f (f + n)) ∧ OutR cf f b f (f + n) (swp l f (f + n)) := by
  have hr := hO.rng
  have g : ∀ k, (swp l f (f + n)).getD k default = if k = f + n then l.getD f default else if k = f then l.getD (f + n) default else l.getD k default := fun k => swp_get (by omega) (by omega)
  have hp : PermR f (f + (n + 1)) l (swp l f (f + n)) := swp_perm ⟨by omega, by omega⟩ ⟨by omega, by omega⟩ (by omega)
  have hO' := hO.perm hp hl
  refine ⟨fun c h1 h2 h3 => ?_, by omega, fun p q h1 h2 h3 h4 => ?_⟩
  · rw [g, g, if_neg (by omega), if_neg (by omega), if_neg (by omega), if_neg (by omega)]
    exact h c h1 (by omega) (by omega)
  · by_cases e : q = f + n
    · subst e
      have : (swp l f (f + n)).getD (f + n) default = l.getD f default := by rw [g, if_pos rfl]
      rw [this]
      obtain ⟨p', hp', ep⟩ := hp.mem (by omega) (k := p) ⟨h1, by omega⟩
      rw [ep]
      have := h.top ho (p' - f) (by omega)
      rw [show f + (p' - f) = p' by omega] at this
      exact this
    · exact hO'.le p q h1 h2 h3 (by omega)
/-- a pivot no more than what stands ahead of the range is the least -/
theorem GdR.least (ho : Ordr cf) {a b v : Nat} {l : List α} (h : GdR cf a b l) (ha : 0 < a) (hv : ¬ cf (l.getD (a - 1) default) (l.getD v default) < 0) : ∀ k, a ≤ k → k < b → leC cf (l.getD v default) (l.getD k default) := fun k h1 h2 => ho.tr _ _ _ hv (h ha k h1 h2)
theorem least_swp {a b v : Nat} {l : List α} (ha : a ≤ v ∧ v < b) (hb : b ≤ l.length) (h : ∀ k, a ≤ k → k < b → leC cf (l.getD v default) (l.getD k default)) : ∀ k, a ≤ k → k < b → leC cf ((swp l a v).getD a default) ((swp l a v).getD k default) := fun k h1 h2 => by
  have g : ∀ k, (swp l a v).getD k default = if k = v then l.getD a default else if k = a then l.getD v default else l.getD k default := fun k => swp_get (by omega) (by omega)
  have ga : (swp l a v).getD a default = l.getD v default := by
    rw [g]
    by_cases e : a = v
    · rw [if_pos e, e]
    · rw [if_neg e, if_pos rfl]
  rw [ga, g]
  repeat' split
  · exact h a (by omega) (by omega)
  · exact h v (by omega) (by omega)
  · exact h k h1 h2
/-- turning a range about -/
theorem SortR.one {a i : Nat} {l : List α} (h : i ≤ a + 1) : SortR cf a i l := fun p q h1 h2 h3 => by omega
theorem SortR.next (ho : Ordr cf) {a i : Nat} {l : List α} (h : SortR cf a i l) (hi : a < i) (hc : ¬ cf (l.getD i default) (l.getD (i - 1) default) < 0) : SortR cf a (i + 1) l := fun p q h1 h2 h3 => by
  by_cases e : q = i
  · subst e
    by_cases e2 : p = q - 1
    · subst e2; exact hc
    · exact ho.tr _ _ _ (h p (q - 1) h1 (by omega) (by omega)) hc
  · exact h p q h1 h2 (by omega)
/-- a range that is in order, its last one and the next changed about -/
theorem InsR.last {a i : Nat} {l l' : List α} (h : SortR cf a (i - 1) l') : InsR cf a (i - 1) (i - 1) l' := InsR.start h
end

end Go.Proofs.Ytkmcdiajcnejiaa.Vm
