/- Package card: two cards together, pure. -/
import Derived.Test.YtlkoedoannjojaaMeB
namespace Go.Proofs.Ytlkoedoannjojaa.Vm
open Go
set_option maxRecDepth 100000
set_option linter.unusedSimpArgs false
set_option linter.unusedVariables false
attribute [-simp] List.getD_eq_getElem?_getD
theorem ba_symm : ∀ s t : ByteArray, (s == t) = (t == s)
  | ⟨a⟩, ⟨b⟩ => by show (a == b) = (b == a); exact BEq.comm
theorem enEq_symm {e f : En} : enEq e f = enEq f e := by
  unfold enEq
  rw [ba_symm e.t f.t]
  simp only [eq_comm]
theorem filE_split {g : Nat → Bool} {c : List En} : ∀ {n : Nat}, n ≤ c.length → (filE g c n ++ filE (fun i => !g i) c n).Perm (c.take n)
  | 0, _ => by simp [filE]
  | n + 1, h => by
    have ih := filE_split (g := g) (c := c) (n := n) (by omega)
    rw [List.take_succ_eq_append_getElem (by omega), ← getD_of (by omega)]
    simp only [filE]
    by_cases e : g n = true
    · simp only [e, if_true, Bool.not_true, Bool.false_eq_true, if_false, List.append_assoc]
      exact List.perm_middle.trans ((List.Perm.cons _ ih).trans (List.perm_append_singleton _ _).symm)
    · have e : g n = false := by simpa using e
      simp only [e, Bool.not_false, if_true, Bool.false_eq_true, if_false]
      rw [← List.append_assoc]
      exact ih.append_right _
theorem hasN_iff {b : List En} {x : En} : hasN b x = true ↔ ∃ y ∈ b, y.p = x.p ∧ y.s = x.s := by
  constructor
  · intro h
    cases Classical.em (∃ y ∈ b, y.p = x.p ∧ y.s = x.s) with
    | inl h2 => exact h2
    | inr h2 =>
      have := hasN_no (b := b) (x := x) fun j hj e => h2 ⟨_, getD_mem hj, e⟩
      rw [this] at h; cases h
  · rintro ⟨y, hy, h1, h2⟩
    obtain ⟨j, hj, rfl⟩ := mem_getD hy
    exact hasN_yes hj h1 h2
theorem firstL_mem {a b : List En} {x : En} (h : x ∈ firstL b a b.length) : x ∈ b ∧ hasN a x = false := by
  obtain ⟨i, hi, rfl⟩ := mem_getD h
  obtain ⟨j, j1, j2, j3⟩ := filE_mem hi
  unfold firstL
  rw [j3]
  exact ⟨getD_mem j1, by simpa using j2⟩
/-- what the second one has alone stands behind all that the first one has of the place -/
theorem second_more {a b : List En} (ha : valE a = 0) (hb : valE b = 0) {x y : En} (hx : x ∈ a) (hy : y ∈ firstL b a b.length) (hp : x.p = y.p) : x.s < y.s := by
  obtain ⟨h1, h2⟩ := firstL_mem hy
  have hv := (val_mem ha hx).2.1.2
  have hw := (val_mem hb h1).2.1.1
  by_cases h : y.s ≤ cntE a y.p a.length
  · obtain ⟨z, hz, e1, e2⟩ := val_has ha (q := y.p) (Nat.le_refl _) y.s hw h
    have : hasN a y = true := hasN_iff.2 ⟨z, hz, e1, e2⟩
    rw [h2] at this; cases this
  · rw [hp] at hv; omega
theorem mer_dist {a b : List En} (ha : valE a = 0) (hb : valE b = 0) : Dist (a ++ firstL b a b.length) := by
  refine List.pairwise_append.2 ⟨val_dist ha, ?_, fun x hx y hy e => ?_⟩
  · refine filE_pw fun i j h1 h2 _ _ e => ?_
    have := val_uniq hb (by omega) h2 e.1 e.2
    omega
  · have := second_more ha hb hx hy e.1
    omega
theorem mer_perm {a b : List En} : (bothL a b a.length ++ (firstL a b a.length ++ firstL b a b.length)).Perm (a ++ firstL b a b.length) := by
  rw [← List.append_assoc]
  refine List.Perm.append_right _ ?_
  have := filE_split (g := fun i => hasN b (a.getD i default)) (c := a) (Nat.le_refl _)
  rw [List.take_length] at this
  exact this
/-- the document's list: place by place, the first one's, then what the second one has alone -/
def mgL (a b : List En) : Nat → List En
  | 0 => []
  | p + 1 => mgL a b p ++ (ofP a p a.length ++ ofP (firstL b a b.length) p (firstL b a b.length).length)
theorem mgL_mem {a b : List En} : ∀ {n : Nat} {x : En}, x ∈ mgL a b n → x.p < n
  | n + 1, x, h => by
    simp only [mgL, List.mem_append] at h
    rcases h with h | h | h
    · have := mgL_mem h; omega
    · have := (ofP_mem h).2; omega
    · have := (ofP_mem h).2; omega
theorem mgL_sort {a b : List En} (ha : valE a = 0) (hb : valE b = 0) : ∀ {n : Nat}, (mgL a b n).Pairwise (leC cfE)
  | 0 => List.Pairwise.nil
  | n + 1 => by
    have hs : (firstL b a b.length).Pairwise (leC cfE) := filE_pw fun i j h1 h2 _ _ => by
      rw [cfE_le]
      have o := val_ord hb h2 (Nat.le_of_lt h1)
      by_cases e : (b.getD i default).p = (b.getD j default).p
      · have := val_lt hb h1 h2 e; omega
      · omega
    have hs2 := List.pairwise_iff_getElem.1 hs
    refine List.pairwise_append.2 ⟨mgL_sort ha hb, List.pairwise_append.2 ⟨filE_pw fun i j h1 h2 h3 h4 => ?_, filE_pw fun i j h1 h2 h3 h4 => ?_, fun x hx y hy => ?_⟩, fun x hx y hy => ?_⟩
    · rw [cfE_le]
      simp only [decide_eq_true_eq] at h3 h4
      have := val_lt ha h1 h2 (by rw [h3, h4])
      omega
    · have := hs2 i j (by omega) h2 h1
      rwa [← getD_of (by omega), ← getD_of h2] at this
    · have m1 := ofP_mem hx
      have m2 := ofP_mem hy
      have := second_more ha hb m1.1 m2.1 (by rw [m1.2, m2.2])
      rw [cfE_le]; omega
    · have h1 := mgL_mem hx
      rw [cfE_le]
      rcases List.mem_append.1 hy with hy | hy
      · have := (ofP_mem hy).2; omega
      · have := (ofP_mem hy).2; omega
theorem mgL_perm {a b : List En} (ha : valE a = 0) (hb : valE b = 0) : (mgL a b 3).Perm (a ++ firstL b a b.length) := by
  have hp := ofP_perm (c := a) (fun i hi => val_pl ha hi) (Nat.le_refl _)
  have hq := ofP_perm (c := firstL b a b.length) (fun i hi => (val_mem hb (firstL_mem (getD_mem hi)).1).1.1) (Nat.le_refl _)
  rw [List.take_length] at hp hq
  refine List.Perm.trans ?_ ((hp.append_right _).trans (List.Perm.append_left _ hq))
  simp only [mgL, List.nil_append]
  have e0 : ((0 : Nat) : Int) = 0 := rfl
  have e1 : ((1 : Nat) : Int) = 1 := rfl
  have e2 : ((2 : Nat) : Int) = 2 := rfl
  rw [e0, e1, e2]
  generalize ofP a 0 a.length = A
  generalize ofP a 1 a.length = B
  generalize ofP a 2 a.length = C
  generalize ofP (firstL b a b.length) 0 _ = X
  generalize ofP (firstL b a b.length) 1 _ = Y
  generalize ofP (firstL b a b.length) 2 _ = Z
  simp only [List.append_assoc]
  refine List.Perm.append_left A ?_
  have s1 : (X ++ (B ++ (Y ++ (C ++ Z)))).Perm (B ++ (X ++ (Y ++ (C ++ Z)))) := by
    have : ((X ++ B) ++ (Y ++ (C ++ Z))).Perm ((B ++ X) ++ (Y ++ (C ++ Z))) := List.perm_append_comm.append_right _
    simpa only [List.append_assoc] using this
  have s2 : (X ++ (Y ++ (C ++ Z))).Perm (C ++ (X ++ (Y ++ Z))) := by
    have : (((X ++ Y) ++ C) ++ Z).Perm ((C ++ (X ++ Y)) ++ Z) := List.perm_append_comm.append_right _
    simpa only [List.append_assoc] using this
  exact s1.trans (List.Perm.append_left B s2)
theorem mer_uniq {a b l : List En} (ha : valE a = 0) (hb : valE b = 0) (hp : l.Perm (bothL a b a.length ++ (firstL a b a.length ++ firstL b a b.length))) (hs : SortR cfE 0 l.length l) : l = mgL a b 3 := by
  have hq := mgL_perm ha hb
  exact sort_uniq ((hp.trans mer_perm).trans hq.symm) ((mer_dist ha hb).perm hq) (pw_sort (mgL_sort ha hb)) hs
end Go.Proofs.Ytlkoedoannjojaa.Vm
