/- Cards as sorted lists, pure: when a sorted list of entries is a card; one entry more. -/
import Derived.Test.YtlkoedoannjojaaStD
namespace Go.Proofs.Ytlkoedoannjojaa.Vm
open Go
set_option maxRecDepth 100000
set_option linter.unusedSimpArgs false
set_option linter.unusedVariables false
attribute [-simp] List.getD_eq_getElem?_getD
theorem getD_mem {l : List En} {i : Nat} (h : i < l.length) : l.getD i default ∈ l := by
  rw [getD_of h]; exact List.getElem_mem h
theorem mem_getD {l : List En} {x : En} (h : x ∈ l) : ∃ i, i < l.length ∧ l.getD i default = x := by
  obtain ⟨i, hi, e⟩ := List.mem_iff_getElem.1 h
  exact ⟨i, hi, by rw [getD_of hi]; exact e⟩
theorem cntE_take_countP {l : List En} {q : Int} : ∀ {n : Nat}, n ≤ l.length → cntE l q n = (l.take n).countP fun x => decide (x.p = q)
  | 0, _ => by simp [cntE]
  | n + 1, h => by
    have ih := cntE_take_countP (l := l) (q := q) (n := n) (by omega)
    rw [cntE, ih, List.take_succ_eq_append_getElem (by omega), List.countP_append, getD_of (by omega)]
    simp [List.countP_cons]
theorem cntE_countP {l : List En} {q : Int} : cntE l q l.length = l.countP fun x => decide (x.p = q) := by
  rw [cntE_take_countP (Nat.le_refl _), List.take_length]
theorem cntE_perm {l l' : List En} {q : Int} (h : l'.Perm l) : cntE l' q l'.length = cntE l q l.length := by
  rw [cntE_countP, cntE_countP]; exact h.countP_eq _
/-- no two of one place and number -/
def Dist (l : List En) : Prop := l.Pairwise fun x y => ¬ (x.p = y.p ∧ x.s = y.s)
theorem Dist.perm {l l' : List En} (h : Dist l) (p : l'.Perm l) : Dist l' := (p.pairwise_iff (fun {x y} hxy hyx => hxy ⟨hyx.1.symm, hyx.2.symm⟩)).2 h
theorem Dist.at {l : List En} (h : Dist l) {i j : Nat} (hij : i < j) (hj : j < l.length) : ¬ ((l.getD i default).p = (l.getD j default).p ∧ (l.getD i default).s = (l.getD j default).s) := by
  have := List.pairwise_iff_getElem.1 h i j (by omega) hj hij
  rw [getD_of (by omega), getD_of hj]; exact this
theorem Dist.eq {l : List En} (h : Dist l) {x y : En} (hx : x ∈ l) (hy : y ∈ l) (hp : x.p = y.p) (hs : x.s = y.s) : x = y := by
  obtain ⟨i, hi, rfl⟩ := mem_getD hx
  obtain ⟨j, hj, rfl⟩ := mem_getD hy
  rcases Nat.lt_trichotomy i j with h1 | h1 | h1
  · exact absurd ⟨hp, hs⟩ (h.at h1 hj)
  · rw [h1]
  · exact absurd ⟨hp.symm, hs.symm⟩ (h.at h1 hi)
theorem val_dist {c : List En} (h : valE c = 0) : Dist c := by
  refine List.pairwise_iff_getElem.2 fun i j hi hj hij e => ?_
  have := val_uniq h hi hj (by rw [getD_of hi, getD_of hj]; exact e.1) (by rw [getD_of hi, getD_of hj]; exact e.2)
  omega
/-- sorted lists of the same entries are the same -/
theorem sort_uniq {l l' : List En} (hp : l'.Perm l) (hd : Dist l) (h1 : SortR cfE 0 l.length l) (h2 : SortR cfE 0 l'.length l') : l' = l := by
  have pw : ∀ {q : List En}, SortR cfE 0 q.length q → q.Pairwise (leC cfE) := fun {q} h => List.pairwise_iff_getElem.2 fun i j hi hj hij => by
    have := h i j (Nat.zero_le _) hij hj
    rwa [getD_of hi, getD_of hj] at this
  refine hp.eq_of_pairwise (le := leC cfE) (fun a b ha hb h3 h4 => ?_) (pw h2) (pw h1)
  have ha := hp.mem_iff.1 ha
  rw [cfE_le] at h3 h4
  exact hd.eq ha hb (by omega) (by omega)
/-- the numbers of a sorted list without gaps -/
theorem num_of {l : List En} (hs : SortR cfE 0 l.length l) (hd : Dist l) (h4 : ∀ x ∈ l, 1 ≤ x.s ∧ ∀ s', 1 ≤ s' → s' < x.s → ∃ y ∈ l, y.p = x.p ∧ y.s = s') :
    ∀ (n : Nat) {i : Nat}, i < l.length → (l.getD i default).s ≤ n → (l.getD i default).s = cntE l (l.getD i default).p i + 1
  | 0, i, hi, hn => by have := (h4 _ (getD_mem hi)).1; omega
  | n + 1, i, hi, hn => by
    have hx := h4 _ (getD_mem hi)
    have none : ∀ a, (∀ k, a ≤ k → k < i → (l.getD k default).p ≠ (l.getD i default).p) → ∀ m, a ≤ m → m ≤ i → cntE l (l.getD i default).p m = cntE l (l.getD i default).p a := fun a ha m => by
      induction m with
      | zero => intro h1 _; rw [show a = 0 by omega]
      | succ m ih =>
        intro h1 h2
        by_cases e : a = m + 1
        · rw [e]
        · rw [cntE, if_neg (ha m (by omega) (by omega)), Nat.add_zero]
          exact ih (by omega) (by omega)
    by_cases h1 : (l.getD i default).s = 1
    · have e := none 0 (fun k _ hk hp => by
        have hle := hs k i (Nat.zero_le _) hk hi
        rw [cfE_le] at hle
        have := (h4 _ (getD_mem (show k < l.length by omega))).1
        exact hd.at hk hi ⟨hp, by omega⟩) i (Nat.zero_le _) (Nat.le_refl _)
      rw [e, h1]; rfl
    · obtain ⟨y, hy, yp, ys⟩ := hx.2 ((l.getD i default).s - 1) (by omega) (by omega)
      obtain ⟨j, hj, rfl⟩ := mem_getD hy
      have hji : j < i := by
        rcases Nat.lt_trichotomy j i with h | h | h
        · exact h
        · subst h; omega
        · have hle := hs i j (Nat.zero_le _) h hj
          rw [cfE_le] at hle; omega
      have ih := num_of hs hd h4 n hj (by omega)
      have e := none (j + 1) (fun k k1 k2 hp => by
        have g1 := hs j k (Nat.zero_le _) (by omega) (by omega)
        have g2 := hs k i (Nat.zero_le _) k2 hi
        rw [cfE_le] at g1 g2
        have d1 := hd.at (show j < k by omega) (by omega)
        have d2 := hd.at k2 hi
        have : (l.getD k default).s = (l.getD j default).s ∨ (l.getD k default).s = (l.getD i default).s := by omega
        rcases this with h | h
        · exact d1 ⟨by omega, h.symm⟩
        · exact d2 ⟨hp, h⟩) i hji (Nat.le_refl _)
      rw [e, cntE, if_pos yp, ← yp]
      omega
theorem val_of {l : List En} (hl : l.length ≤ 60) (hs : SortR cfE 0 l.length l) (hd : Dist l) (h2 : ∀ x ∈ l, (0 ≤ x.p ∧ x.p ≤ 2) ∧ rightB x.t = true)
    (h4 : ∀ x ∈ l, 1 ≤ x.s ∧ ∀ s', 1 ≤ s' → s' < x.s → ∃ y ∈ l, y.p = x.p ∧ y.s = s') (h5 : ∀ x ∈ l, selfB x = true ∧ rangB l x = true ∧ ∀ y ∈ l, (seesB x y && lessB x y) = false) : valE l = 0 := by
  have a1 : allN (fun i => okE1 l i && okE2 l i) l.length = true := allN_of fun i hi => by
    have hm := getD_mem hi
    simp only [Bool.and_eq_true]
    refine ⟨?_, ?_⟩
    · simp only [okE1, Bool.and_eq_true, decide_eq_true_eq]; exact h2 _ hm
    · simp only [okE2, decide_eq_true_eq]
      refine ⟨num_of hs hd h4 (l.getD i default).s.toNat hi (by omega), ?_⟩
      unfold prevP
      split
      · exact (h2 _ hm).1.1
      · have := hs (i - 1) i (Nat.zero_le _) (by omega) hi
        rw [cfE_le] at this; omega
  have a2 : allN (fun i => seenR l (l.getD i default)) l.length = true := allN_of fun i hi => by
    obtain ⟨b1, b2, b3⟩ := h5 _ (getD_mem hi)
    simp only [seenR, b1, b2, Bool.true_and]
    refine allN_of fun j hj => ?_
    simp only [trB, b3 _ (getD_mem hj)]; rfl
  unfold valE
  rw [if_neg (by omega), a1, if_neg (by simp), a2, if_neg (by simp)]
/-- each number up to the count stands there -/
theorem val_has {c : List En} (h : valE c = 0) {q : Int} : ∀ {n : Nat}, n ≤ c.length → ∀ s' : Int, 1 ≤ s' → s' ≤ cntE c q n → ∃ y ∈ c, y.p = q ∧ y.s = s'
  | 0, _, s', h1, h2 => by simp [cntE] at h2; omega
  | n + 1, hn, s', h1, h2 => by
    rw [cntE] at h2
    by_cases e : (c.getD n default).p = q
    · rw [if_pos e] at h2
      by_cases e2 : s' = cntE c q n + 1
      · exact ⟨_, getD_mem (show n < c.length by omega), e, by rw [val_num h (by omega), e, e2]⟩
      · exact val_has h (n := n) (by omega) s' h1 (by omega)
    · rw [if_neg e] at h2
      exact val_has h (n := n) (by omega) s' h1 (by omega)
theorem val_mem {c : List En} (h : valE c = 0) {x : En} (hx : x ∈ c) : ((0 ≤ x.p ∧ x.p ≤ 2) ∧ rightB x.t = true) ∧ (1 ≤ x.s ∧ x.s ≤ cntE c x.p c.length) ∧ selfB x = true ∧ rangB c x = true ∧ ∀ y ∈ c, (seesB x y && lessB x y) = false := by
  obtain ⟨i, hi, rfl⟩ := mem_getD hx
  obtain ⟨a1, a2, a3⟩ := valE_ok h hi
  simp only [okE1, Bool.and_eq_true, decide_eq_true_eq] at a1
  simp only [seenR, Bool.and_eq_true] at a3
  refine ⟨a1, ⟨by rw [val_num h hi]; omega, val_top h hi⟩, a3.1.1, a3.1.2, fun y hy => ?_⟩
  obtain ⟨j, hj, rfl⟩ := mem_getD hy
  have := allN_at a3.2 hj
  unfold trB at this
  cases h : (seesB (c.getD i default) (c.getD j default) && lessB (c.getD i default) (c.getD j default))
  · rfl
  · rw [h] at this; cases this
/-- the entry that a place writes next -/
def nextE (c : List En) (q : Int) (t : ByteArray) : En := ⟨q, cntE c q c.length + 1, cntE c 0 c.length, cntE c 1 c.length, cntE c 2 c.length, t⟩
theorem rang_iff {c : List En} {e : En} : rangB c e = true ↔ (0 ≤ e.a ∧ e.a ≤ cntE c 0 c.length) ∧ (0 ≤ e.b ∧ e.b ≤ cntE c 1 c.length) ∧ (0 ≤ e.c ∧ e.c ≤ cntE c 2 c.length) := by
  simp only [rangB, Bool.and_eq_true, decide_eq_true_eq, and_assoc]
theorem next_at {c : List En} {q p : Int} {t : ByteArray} (h : 0 ≤ p ∧ p ≤ 2) : (nextE c q t).at p.toNat = cntE c p c.length := triC_eq h
theorem add_dist {c : List En} (h : valE c = 0) {q : Int} {t : ByteArray} : Dist (c ++ [nextE c q t]) := by
  refine List.pairwise_append.2 ⟨val_dist h, List.pairwise_singleton _ _, fun x hx y hy => ?_⟩
  rw [List.mem_singleton.1 hy]
  rintro ⟨e1, e2⟩
  have := (val_mem h hx).2.1.2
  simp only [nextE] at e1 e2
  rw [e1] at this
  omega
theorem val_add {c l : List En} (h : valE c = 0) (hl : c.length < 60) {q : Int} (hq : 0 ≤ q ∧ q ≤ 2) {t : ByteArray} (ht : rightB t = true) (hp : l.Perm (c ++ [nextE c q t])) (hs : SortR cfE 0 l.length l) : valE l = 0 := by
  have hcnt : ∀ p, cntE l p l.length = cntE c p c.length + if q = p then 1 else 0 := fun p => by
    rw [cntE_perm hp, cntE_app1]; rfl
  have hmem : ∀ x, x ∈ l ↔ x ∈ c ∨ x = nextE c q t := fun x => by rw [hp.mem_iff]; simp
  have hle : ∀ p, cntE c p c.length ≤ cntE l p l.length := fun p => by rw [hcnt]; omega
  refine val_of (by rw [hp.length_eq]; simp; omega) hs ((add_dist h).perm hp) (fun x hx => ?_) (fun x hx => ?_) fun x hx => ?_
  · rcases (hmem x).1 hx with hx | rfl
    · exact (val_mem h hx).1
    · exact ⟨hq, ht⟩
  · rcases (hmem x).1 hx with hx | rfl
    · have hv := (val_mem h hx).2.1
      refine ⟨hv.1, fun s' h1 h2 => ?_⟩
      obtain ⟨y, hy, e1, e2⟩ := val_has h (q := x.p) (Nat.le_refl _) s' h1 (by omega)
      exact ⟨y, (hmem y).2 (Or.inl hy), e1, e2⟩
    · refine ⟨by simp only [nextE]; omega, fun s' h1 h2 => ?_⟩
      simp only [nextE] at h2
      obtain ⟨y, hy, e1, e2⟩ := val_has h (q := q) (Nat.le_refl _) s' h1 (by omega)
      exact ⟨y, (hmem y).2 (Or.inl hy), e1, e2⟩
  · have l0 := hle 0
    have l1 := hle 1
    have l2 := hle 2
    rcases (hmem x).1 hx with hx | rfl
    · obtain ⟨_, _, v3, v4, v5⟩ := val_mem h hx
      refine ⟨v3, ?_, fun y hy => ?_⟩
      · rw [rang_iff] at v4 ⊢; omega
      · rcases (hmem y).1 hy with hy | rfl
        · exact v5 y hy
        · have : seesB x (nextE c q t) = false := by
            refine decide_eq_false ?_
            show ¬ ((cntE c q c.length : Int) + 1 ≤ x.at q.toNat)
            rw [rang_iff] at v4
            rcases (show q = 0 ∨ q = 1 ∨ q = 2 by omega) with rfl | rfl | rfl <;> simp [En.at, tri] <;> omega
          rw [this]; rfl
    · refine ⟨?_, ?_, fun y hy => ?_⟩
      · refine decide_eq_true ?_
        show (nextE c q t).at q.toNat = (cntE c q c.length : Int) + 1 - 1
        rw [next_at hq]; omega
      · rw [rang_iff]; simp only [nextE]; omega
      · rcases (hmem y).1 hy with hy | rfl
        · have v4 := (val_mem h hy).2.2.2.1
          rw [rang_iff] at v4
          have : lessB (nextE c q t) y = false := by
            refine decide_eq_false ?_
            simp only [nextE]; omega
          rw [this, Bool.and_false]
        · have : lessB (nextE c q t) (nextE c q t) = false := decide_eq_false (by omega)
          rw [this, Bool.and_false]
/-- the entries of a place -/
def ofP (c : List En) (q : Int) (n : Nat) : List En := filE (fun i => decide ((c.getD i default).p = q)) c n
theorem ofP_perm {c : List En} (hpl : ∀ i, i < c.length → 0 ≤ (c.getD i default).p ∧ (c.getD i default).p ≤ 2) : ∀ {n : Nat}, n ≤ c.length → (ofP c 0 n ++ (ofP c 1 n ++ ofP c 2 n)).Perm (c.take n)
  | 0, _ => by simp [ofP, filE]
  | n + 1, h => by
    have ih := ofP_perm hpl (n := n) (by omega)
    have hp := hpl n (by omega)
    have ht : c.take (n + 1) = c.take n ++ [c.getD n default] := by
      rw [List.take_succ_eq_append_getElem (by omega), getD_of (by omega)]
    rw [ht]
    have st : ∀ q : Int, ofP c q (n + 1) = if (c.getD n default).p = q then ofP c q n ++ [c.getD n default] else ofP c q n := fun q => by
      simp only [ofP, filE]
      by_cases e : (c.getD n default).p = q <;> simp [e]
    rw [st 0, st 1, st 2]
    have one : ∀ (x : En) (a b : List En), a.Perm b → (x :: a).Perm (b ++ [x]) := fun x a b hab => (List.Perm.cons x hab).trans (List.perm_append_singleton x b).symm
    rcases (show (c.getD n default).p = 0 ∨ (c.getD n default).p = 1 ∨ (c.getD n default).p = 2 by omega) with e | e | e
    · simp only [e, if_true]
      rw [if_neg (by omega), if_neg (by omega), List.append_assoc]
      exact (List.perm_middle).trans (one _ _ _ ih)
    · simp only [e, if_true]
      rw [if_neg (by omega), if_neg (by omega), List.append_assoc, ← List.append_assoc]
      exact (List.perm_middle).trans (one _ _ _ (by rw [List.append_assoc]; exact ih))
    · simp only [e, if_true]
      rw [if_neg (by omega), if_neg (by omega), ← List.append_assoc, ← List.append_assoc]
      have := ih.append_right [c.getD n default]
      rw [← List.append_assoc] at this
      exact this
end Go.Proofs.Ytlkoedoannjojaa.Vm
