/- Package card over the machine: what is cut out of a card, pure. -/
import Derived.Test.YtlkoedoannjojaaCaA
namespace Go.Proofs.Ytlkoedoannjojaa.Vm
open Go
set_option maxRecDepth 100000
set_option linter.unusedSimpArgs false
set_option linter.unusedVariables false
attribute [-simp] List.getD_eq_getElem?_getD

/-- the entries of a beginning whose index passes -/
def filE (g : Nat → Bool) (c : List En) : Nat → List En
  | 0 => []
  | n + 1 => if g n then filE g c n ++ [c.getD n default] else filE g c n
theorem filE_len {g : Nat → Bool} {c : List En} : ∀ {n : Nat}, (filE g c n).length ≤ n
  | 0 => Nat.le_refl _
  | n + 1 => by have := @filE_len g c n; simp only [filE]; split <;> simp <;> omega
theorem filE_congr {g h : Nat → Bool} {c : List En} : ∀ {n : Nat}, (∀ i, i < n → g i = h i) → filE g c n = filE h c n
  | 0, _ => rfl
  | n + 1, e => by
    have ih := filE_congr (g := g) (h := h) (c := c) (n := n) fun i hi => e i (by omega)
    simp only [filE, e n (by omega), ih]
theorem getD_app {l : List En} {x : En} {i : Nat} (h : i < l.length) : (l ++ [x]).getD i default = l.getD i default := by
  simp only [List.getD_eq_getElem?_getD, List.getElem?_append_left h]
theorem getD_end {l : List En} {x : En} : (l ++ [x]).getD l.length default = x := by
  simp [List.getD_eq_getElem?_getD]
theorem filE_mem {g : Nat → Bool} {c : List En} : ∀ {n i : Nat}, i < (filE g c n).length → ∃ j, j < n ∧ g j = true ∧ (filE g c n).getD i default = c.getD j default
  | n + 1, i, hi => by
    simp only [filE] at hi ⊢
    split
    · rename_i hg
      rw [if_pos hg] at hi
      by_cases h : i < (filE g c n).length
      · obtain ⟨j, h1, h2, h3⟩ := filE_mem h
        exact ⟨j, by omega, h2, by rw [getD_app h]; exact h3⟩
      · have : i = (filE g c n).length := by simp at hi; omega
        subst this
        exact ⟨n, by omega, hg, getD_end⟩
    · rename_i hg
      rw [if_neg hg] at hi
      obtain ⟨j, h1, h2, h3⟩ := filE_mem hi
      exact ⟨j, by omega, h2, h3⟩
theorem filE_in {g : Nat → Bool} {c : List En} : ∀ {n j : Nat}, j < n → g j = true → ∃ i, i < (filE g c n).length ∧ (filE g c n).getD i default = c.getD j default
  | n + 1, j, hj, hg => by
    by_cases e : j = n
    · subst e
      refine ⟨(filE g c j).length, ?_, ?_⟩
      · simp only [filE, hg, if_true]; simp
      · simp only [filE, hg, if_true]; exact getD_end
    · obtain ⟨i, h1, h2⟩ := filE_in (c := c) (show j < n by omega) hg
      refine ⟨i, ?_, ?_⟩
      · simp only [filE]; split
        · simp; omega
        · exact h1
      · simp only [filE]; split
        · rw [getD_app h1]; exact h2
        · exact h2
theorem filE_not {g : Nat → Bool} {c : List En} : ∀ {n : Nat}, (filE g c n).length + (filE (fun i => !g i) c n).length = n
  | 0 => rfl
  | n + 1 => by
    have := @filE_not g c n
    simp only [filE]
    by_cases hg : g n = true
    · simp [hg]; omega
    · simp [hg]; omega
theorem cntE_app {l : List En} {x : En} {q : Int} : ∀ {i : Nat}, i ≤ l.length → cntE (l ++ [x]) q i = cntE l q i
  | 0, _ => rfl
  | i + 1, h => by simp only [cntE, cntE_app (show i ≤ l.length by omega), getD_app (show i < l.length by omega)]
theorem cntE_app1 {l : List En} {x : En} {q : Int} : cntE (l ++ [x]) q (l ++ [x]).length = cntE l q l.length + if x.p = q then 1 else 0 := by
  have e : (l ++ [x]).length = l.length + 1 := by simp
  rw [e, cntE, cntE_app (Nat.le_refl _), getD_end]
/-- entries of one place are numbered from 1 -/
theorem val_num {c : List En} (h : valE c = 0) {i : Nat} (hi : i < c.length) : (c.getD i default).s = cntE c (c.getD i default).p i + 1 := by
  have := (valE_ok h hi).2.1
  simp only [okE2, decide_eq_true_eq] at this
  exact this.1
theorem val_pl {c : List En} (h : valE c = 0) {i : Nat} (hi : i < c.length) : 0 ≤ (c.getD i default).p ∧ (c.getD i default).p ≤ 2 := by
  have := (valE_ok h hi).1
  simp only [okE1, Bool.and_eq_true, decide_eq_true_eq] at this
  exact this.1
theorem val_ord {c : List En} (h : valE c = 0) : ∀ {j i : Nat}, j < c.length → i ≤ j → (c.getD i default).p ≤ (c.getD j default).p
  | 0, i, hj, hi => by
    have : i = 0 := by omega
    subst this; exact Int.le_refl _
  | j + 1, i, hj, hi => by
    by_cases e : i = j + 1
    · subst e; exact Int.le_refl _
    · have h1 := val_ord h (show j < c.length by omega) (show i ≤ j by omega)
      have h2 := (valE_ok h hj).2.1
      simp only [okE2, decide_eq_true_eq] at h2
      have h3 := h2.2
      unfold prevP at h3
      rw [if_neg (by omega), Nat.add_sub_cancel] at h3
      omega
theorem val_lt {c : List En} (h : valE c = 0) {i j : Nat} (hij : i < j) (hj : j < c.length) (hp : (c.getD i default).p = (c.getD j default).p) : (c.getD i default).s < (c.getD j default).s := by
  rw [val_num h hj, val_num h (show i < c.length by omega), hp]
  have := @cntE_mono c (c.getD j default).p (i + 1) j hij
  simp only [cntE, hp, if_true] at this
  omega
theorem val_uniq {c : List En} (h : valE c = 0) {i j : Nat} (hi : i < c.length) (hj : j < c.length) (hp : (c.getD i default).p = (c.getD j default).p) (hs : (c.getD i default).s = (c.getD j default).s) : i = j := by
  rcases Nat.lt_trichotomy i j with h1 | h1 | h1
  · have := val_lt h h1 hj hp; omega
  · exact h1
  · have := val_lt h h1 hi hp.symm; omega
theorem val_top {c : List En} (h : valE c = 0) {i : Nat} (hi : i < c.length) : (c.getD i default).s ≤ cntE c (c.getD i default).p c.length := by
  rw [val_num h hi]
  have := @cntE_mono c (c.getD i default).p (i + 1) c.length hi
  simp only [cntE, if_true] at this
  omega
/-- what a card has up to a clock -/
def upto (k : Int → Int) (c : List En) (i : Nat) : Bool := decide ((c.getD i default).s ≤ k (c.getD i default).p)
theorem cut_cnt {c : List En} (h : valE c = 0) {k : Int → Int} (hk : ∀ q, 0 ≤ k q) {q : Int} : ∀ {n : Nat}, n ≤ c.length →
    (cntE (filE (upto k c) c n) q (filE (upto k c) c n).length : Int) = if (cntE c q n : Int) ≤ k q then (cntE c q n : Int) else k q
  | 0, _ => by
    have := hk q
    show ((0 : Nat) : Int) = if ((0 : Nat) : Int) ≤ k q then ((0 : Nat) : Int) else k q
    rw [if_pos (by omega)]
  | n + 1, hn => by
    have ih := cut_cnt h hk (q := q) (show n ≤ c.length by omega)
    have hs := val_num h (show n < c.length by omega)
    simp only [filE]
    by_cases hg : upto k c n = true
    · rw [if_pos hg, cntE_app1]
      simp only [upto, decide_eq_true_eq] at hg
      simp only [cntE]
      by_cases hq : (c.getD n default).p = q
      · rw [hq] at hs hg
        simp only [hq, if_true]
        rw [if_pos (by omega)] at ih
        rw [if_pos (by omega)]
        omega
      · simp only [hq, if_false, Nat.add_zero]
        exact ih
    · rw [if_neg hg]
      simp only [upto, decide_eq_true_eq] at hg
      simp only [cntE]
      by_cases hq : (c.getD n default).p = q
      · rw [hq] at hs hg
        simp only [hq, if_true]
        rw [if_neg (by omega)]
        split at ih <;> omega
      · simp only [hq, if_false, Nat.add_zero]
        exact ih
theorem cut_ok {c : List En} (h : valE c = 0) {k : Int → Int} (hk : ∀ q, 0 ≤ k q) : ∀ {n : Nat}, n ≤ c.length →
    allN (fun i => okE1 (filE (upto k c) c n) i && okE2 (filE (upto k c) c n) i) (filE (upto k c) c n).length = true
  | 0, _ => rfl
  | n + 1, hn => by
    have ih := cut_ok h hk (show n ≤ c.length by omega)
    have hs := val_num h (show n < c.length by omega)
    have hc := cut_cnt h hk (q := (c.getD n default).p) (show n ≤ c.length by omega)
    simp only [filE]
    by_cases hg : upto k c n = true
    · rw [if_pos hg]
      simp only [upto, decide_eq_true_eq] at hg
      generalize hF : filE (upto k c) c n = F at ih hc
      have e : (F ++ [c.getD n default]).length = F.length + 1 := by simp
      rw [e]
      simp only [allN, Bool.and_eq_true]
      refine ⟨allN_of fun i hi => ?_, ?_, ?_⟩
      · have a := allN_at ih hi
        simp only [Bool.and_eq_true] at a ⊢
        refine ⟨?_, ?_⟩
        · simp only [okE1, getD_app hi]; exact a.1
        · have a2 := a.2
          simp only [okE2, getD_app hi, cntE_app (Nat.le_of_lt hi), prevP] at a2 ⊢
          by_cases e0 : i = 0
          · simp only [e0, if_true] at a2 ⊢; exact a2
          · simp only [e0, if_false, getD_app (show i - 1 < F.length by omega)] at a2 ⊢; exact a2
      · have a := (valE_ok h (show n < c.length by omega)).1
        simp only [okE1, getD_end] at a ⊢; exact a
      · simp only [okE2, getD_end, cntE_app (Nat.le_refl _), decide_eq_true_eq]
        rw [if_pos (by omega)] at hc
        refine ⟨by omega, ?_⟩
        unfold prevP
        split
        · exact (val_pl h (show n < c.length by omega)).1
        · have hl : F.length - 1 < F.length := by omega
          rw [getD_app hl]
          subst hF
          obtain ⟨j, h1, h2, h3⟩ := filE_mem hl
          rw [h3]
          exact val_ord h (by omega) (by omega)
    · rw [if_neg hg]; exact ih
theorem at3 {e f : En} {q : Nat} (h : lessB e f = false) : f.at q ≤ e.at q := by
  simp only [lessB, decide_eq_false_iff_not] at h
  unfold En.at tri
  split
  · omega
  · split <;> omega
/-- a card up to a clock is a card, if what stands there has seen no more -/
theorem cut_val {c : List En} (h : valE c = 0) {k : Int → Int} (hk : ∀ q, 0 ≤ k q) (h3 : ∀ q : Int, 0 ≤ q ∧ q ≤ 2 → k q ≤ cntE c q c.length)
    (hs : ∀ i, i < c.length → upto k c i = true → (c.getD i default).a ≤ k 0 ∧ (c.getD i default).b ≤ k 1 ∧ (c.getD i default).c ≤ k 2) :
    valE (filE (upto k c) c c.length) = 0 ∧ ∀ q : Int, 0 ≤ q ∧ q ≤ 2 → (cntE (filE (upto k c) c c.length) q (filE (upto k c) c c.length).length : Int) = k q := by
  have hc : ∀ q : Int, 0 ≤ q ∧ q ≤ 2 → (cntE (filE (upto k c) c c.length) q (filE (upto k c) c c.length).length : Int) = k q := fun q hq => by
    rw [cut_cnt h hk (Nat.le_refl _)]
    have := h3 q hq
    split <;> omega
  have hl : (filE (upto k c) c c.length).length ≤ c.length := filE_len
  have hl2 := valE_small h
  have h1 := cut_ok h hk (Nat.le_refl c.length)
  refine ⟨?_, hc⟩
  have h2 : allN (fun i => seenR (filE (upto k c) c c.length) ((filE (upto k c) c c.length).getD i default)) (filE (upto k c) c c.length).length = true := by
    refine allN_of fun i hi => ?_
    obtain ⟨j, j1, j2, j3⟩ := filE_mem hi
    rw [j3]
    have s := (valE_ok h j1).2.2
    have b := hs j j1 j2
    simp only [seenR, Bool.and_eq_true] at s ⊢
    refine ⟨⟨s.1.1, ?_⟩, allN_of fun m hm => ?_⟩
    · have r := s.1.2
      simp only [rangB, Bool.and_eq_true, decide_eq_true_eq] at r ⊢
      have c0 := hc 0 (by omega)
      have c1 := hc 1 (by omega)
      have c2 := hc 2 (by omega)
      omega
    · obtain ⟨u, u1, u2, u3⟩ := filE_mem hm
      unfold trB
      rw [u3]
      exact allN_at s.2 u1
  unfold valE
  rw [if_neg (by omega), h1, if_neg (by simp), h2, if_neg (by simp)]
end Go.Proofs.Ytlkoedoannjojaa.Vm
