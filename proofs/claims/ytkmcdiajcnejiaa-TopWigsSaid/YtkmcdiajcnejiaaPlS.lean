/- Plays, pure: how many wigs are needed (crowds, the fullest minutes), and that the first free wig serves. -/
import Derived.Test.YtkmcdiajcnejiaaPlD
import Derived.Test.YtkmcdiajcnejiaaSqP
namespace Go.Proofs.Ytkmcdiajcnejiaa.Vm
open Go
set_option maxRecDepth 100000
set_option linter.unusedSimpArgs false
set_option linter.unusedVariables false
attribute [-simp] List.getD_eq_getElem?_getD
/-- how many wearings of a size occupy a wig at a minute -/
def crw (p : Ply) (s a : Int) : Nat := p.W.countP (inB p s a)
theorem inB_iff {p : Ply} {s a : Int} {w : Wr} : inB p s a w = true ↔ w.s = s ∧ w.f ≤ a ∧ a < w.t + p.rd := by simp [inB]
theorem crowdN_len {p : Ply} {s a : Int} : ∀ {n : Nat}, n ≤ p.W.length → (crowdN p s a n).length = (p.W.take n).countP (inB p s a)
  | 0, _ => by simp [crowdN]
  | n + 1, h => by
    have ih := crowdN_len (p := p) (s := s) (a := a) (n := n) (by omega)
    have e : p.W.take (n + 1) = p.W.take n ++ [p.W.getD n default] := by
      rw [List.take_add_one, List.getElem?_eq_getElem (by omega), getD_of (by omega)]; rfl
    simp only [crowdN] at ih ⊢
    rw [e, List.countP_append, ← ih, List.range_succ, List.filter_append, List.length_append]
    by_cases hb : inB p s a (p.W.getD n default) = true
    · simp [hb]
    · simp [hb]
theorem crowdL_len {p : Ply} {s a : Int} : (crowdL p s a p.W.length).length = crw p s a := by
  simp only [crowdL, List.length_map]
  rw [crowdN_len (Nat.le_refl _), List.take_length]; rfl
/-- the fullest of the minutes at which one of the first n wearings begins -/
def mxN (p : Ply) (s : Int) : Nat → Nat
  | 0 => 0
  | n + 1 => if (p.W.getD n default).s = s then max (mxN p s n) (crw p s (p.W.getD n default).f) else mxN p s n
def mxS (p : Ply) (s : Int) : Nat := mxN p s p.W.length
def leN (p : Ply) : Nat → Nat
  | 0 => 0
  | n + 1 => leN p n + mxS p ((n + 1 : Nat) : Int)
def leastP (p : Ply) : Nat := leN p 99
theorem mxN_le {p : Ply} {s : Int} {m : Nat} : ∀ {n : Nat}, (∀ i, i < n → (p.W.getD i default).s = s → crw p s (p.W.getD i default).f ≤ m) → mxN p s n ≤ m
  | 0, _ => Nat.zero_le _
  | n + 1, h => by
    have ih := mxN_le (p := p) (s := s) (m := m) (n := n) fun i hi => h i (by omega)
    have := h n (by omega)
    unfold mxN
    split
    · rename_i e; have := this e; omega
    · exact ih
theorem mxN_ge {p : Ply} {s : Int} : ∀ {n : Nat} {i : Nat}, i < n → (p.W.getD i default).s = s → crw p s (p.W.getD i default).f ≤ mxN p s n
  | n + 1, i, hi, hs => by
    by_cases e : i = n
    · subst e; unfold mxN; rw [if_pos hs]; omega
    · have ih := mxN_ge (p := p) (s := s) (n := n) (i := i) (by omega) hs
      unfold mxN
      split <;> omega
theorem mxS_le {p : Ply} {s : Int} {m : Nat} (h : ∀ w, w ∈ p.W → w.s = s → crw p s w.f ≤ m) : mxS p s ≤ m := mxN_le fun i hi hs => h _ (by rw [getD_of hi]; exact List.getElem_mem hi) hs
theorem mxS_ge {p : Ply} {s : Int} {w : Wr} (h : w ∈ p.W) (hs : w.s = s) : crw p s w.f ≤ mxS p s := by
  obtain ⟨i, hi, e⟩ := List.mem_iff_getElem.1 h
  have := mxN_ge (p := p) (s := s) (n := p.W.length) hi (by rw [getD_of hi, e]; exact hs)
  rw [getD_of hi, e] at this
  exact this
/-- a list that is not empty has a member that begins last -/
theorem last_of : ∀ (l : List Wr), l ≠ [] → ∃ w, w ∈ l ∧ ∀ v, v ∈ l → v.f ≤ w.f
  | [w], _ => ⟨w, by simp, fun v hv => by simp at hv; subst hv; omega⟩
  | w :: v :: l, _ => by
    obtain ⟨u, h1, h2⟩ := last_of (v :: l) (by simp)
    by_cases e : u.f ≤ w.f
    · refine ⟨w, by simp, fun x hx => ?_⟩
      rcases List.mem_cons.1 hx with h | h
      · subst h; omega
      · have := h2 x h; omega
    · refine ⟨u, List.mem_cons_of_mem _ h1, fun x hx => ?_⟩
      rcases List.mem_cons.1 hx with h | h
      · subst h; omega
      · exact h2 x h
theorem crw_le {p : Ply} {s a : Int} : crw p s a ≤ mxS p s := by
  by_cases h : p.W.filter (inB p s a) = []
  · have : crw p s a = 0 := by rw [crw, List.countP_eq_length_filter, h]; rfl
    omega
  · obtain ⟨w, h1, h2⟩ := last_of _ h
    obtain ⟨m1, m2⟩ := List.mem_filter.1 h1
    have hw := inB_iff.1 m2
    refine Nat.le_trans ?_ (mxS_ge m1 hw.1)
    refine List.countP_mono_left fun u hu hb => ?_
    have hu2 := inB_iff.1 hb
    have := h2 u (List.mem_filter.2 ⟨hu, hb⟩)
    exact inB_iff.2 ⟨hu2.1, this, by omega⟩
theorem mxS_none {p : Ply} {s : Int} (h : ∀ w, w ∈ p.W → w.s ≠ s) : mxS p s = 0 := by
  have := mxS_le (p := p) (s := s) (m := 0) fun w hw hs => absurd hs (h w hw)
  omega
theorem leN_mono {p p' : Ply} {n : Nat} (h : ∀ s, mxS p s ≤ mxS p' s) : leN p n ≤ leN p' n := by
  induction n with
  | zero => exact Nat.le_refl _
  | succ n ih => simp only [leN]; have := h ((n + 1 : Nat) : Int); omega
theorem leN_gap {p : Ply} {m n : Nat} (hmn : m ≤ n) (h : ∀ w, w ∈ p.W → ¬ ((m : Int) < w.s ∧ w.s ≤ n)) : leN p n = leN p m := by
  induction n with
  | zero => have : m = 0 := by omega
            subst this; rfl
  | succ n ih =>
    by_cases e : m = n + 1
    · subst e; rfl
    · have := ih (by omega) fun w hw hx => h w hw ⟨hx.1, by omega⟩
      have h0 := mxS_none (p := p) (s := ((n + 1 : Nat) : Int)) fun w hw hx => h w hw ⟨by omega, by omega⟩
      simp only [leN, h0, this]; omega
theorem leN_step {p : Ply} {n : Nat} : leN p (n + 1) = leN p n + mxS p ((n + 1 : Nat) : Int) := rfl
/-- without one wearing -/
theorem crw_erase {A B : List Wr} {w : Wr} {r c s a : Int} : crw ⟨A ++ w :: B, r, c⟩ s a = crw ⟨A ++ B, r, c⟩ s a + if inB ⟨A ++ B, r, c⟩ s a w = true then 1 else 0 := by
  have e : inB ⟨A ++ w :: B, r, c⟩ s a = inB ⟨A ++ B, r, c⟩ s a := rfl
  simp only [crw, e, List.countP_append, List.countP_cons]
  omega
theorem mxS_erase {A B : List Wr} {w : Wr} {r c s : Int} : mxS ⟨A ++ B, r, c⟩ s ≤ mxS ⟨A ++ w :: B, r, c⟩ s ∧ mxS ⟨A ++ w :: B, r, c⟩ s ≤ mxS ⟨A ++ B, r, c⟩ s + if w.s = s then 1 else 0 := by
  constructor
  · refine mxS_le fun u hu hs => ?_
    have h1 := crw_erase (A := A) (B := B) (w := w) (r := r) (c := c) (s := s) (a := u.f)
    have h2 := crw_le (p := ⟨A ++ w :: B, r, c⟩) (s := s) (a := u.f)
    omega
  · refine mxS_le fun u hu hs => ?_
    have h1 := crw_erase (A := A) (B := B) (w := w) (r := r) (c := c) (s := s) (a := u.f)
    have h2 := crw_le (p := ⟨A ++ B, r, c⟩) (s := s) (a := u.f)
    rw [h1]
    by_cases e : w.s = s
    · rw [if_pos e]; split <;> omega
    · rw [if_neg e, if_neg (fun hb => e (inB_iff.1 hb).1)]; omega
theorem leN_erase {A B : List Wr} {w : Wr} {r c : Int} : ∀ {n : Nat}, leN ⟨A ++ B, r, c⟩ n ≤ leN ⟨A ++ w :: B, r, c⟩ n ∧ leN ⟨A ++ w :: B, r, c⟩ n ≤ leN ⟨A ++ B, r, c⟩ n + if 1 ≤ w.s ∧ w.s ≤ n then 1 else 0
  | 0 => by simp [leN]
  | n + 1 => by
    have ih := leN_erase (A := A) (B := B) (w := w) (r := r) (c := c) (n := n)
    have h := mxS_erase (A := A) (B := B) (w := w) (r := r) (c := c) (s := ((n + 1 : Nat) : Int))
    simp only [leN_step]
    refine ⟨by omega, ?_⟩
    by_cases e : w.s = ((n + 1 : Nat) : Int)
    · rw [if_pos e] at h; rw [if_neg (by omega)] at ih; rw [if_pos (by omega)]; omega
    · rw [if_neg e] at h
      by_cases e2 : 1 ≤ w.s ∧ w.s ≤ (n : Int)
      · rw [if_pos e2] at ih; rw [if_pos (by omega)]; omega
      · rw [if_neg e2] at ih; rw [if_neg (by omega)]; omega
theorem least_erase {A B : List Wr} {w : Wr} {r c : Int} : leastP ⟨A ++ B, r, c⟩ ≤ leastP ⟨A ++ w :: B, r, c⟩ ∧ leastP ⟨A ++ w :: B, r, c⟩ ≤ leastP ⟨A ++ B, r, c⟩ + 1 := by
  have h := leN_erase (A := A) (B := B) (w := w) (r := r) (c := c) (n := 99)
  refine ⟨h.1, Nat.le_trans h.2 ?_⟩
  simp only [leastP]
  split <;> omega
/-- later wearings delayed -/
def dly (fr by' : Int) (w : Wr) : Wr := if fr ≤ w.f then ⟨w.a, w.s, w.f + by', w.t + by'⟩ else w
theorem mxS_delay {W : List Wr} {r c fr d s : Int} (hd : 0 ≤ d) : mxS ⟨W.map (dly fr d), r, c⟩ s ≤ mxS ⟨W, r, c⟩ s := by
  refine mxS_le fun u hu hs => ?_
  obtain ⟨w, hw, rfl⟩ := List.mem_map.1 hu
  refine Nat.le_trans ?_ (mxS_ge (p := ⟨W, r, c⟩) (s := s) (w := w) hw (by simp only [dly] at hs; split at hs <;> exact hs))
  simp only [crw, List.countP_map]
  refine List.countP_mono_left fun v hv hb => ?_
  have hb := inB_iff.1 hb
  refine inB_iff.2 ?_
  refine ⟨?_, ?_, ?_⟩
  · have := hb.1; simp only [dly] at this; split at this <;> exact this
  · have := hb.2.1
    by_cases e1 : fr ≤ v.f <;> by_cases e2 : fr ≤ w.f <;> simp only [dly, e1, e2, if_true, if_false] at this <;> omega
  · have h1 := hb.2.1
    have := hb.2.2
    by_cases e1 : fr ≤ v.f <;> by_cases e2 : fr ≤ w.f <;> simp only [dly, e1, e2, if_true, if_false] at this h1 ⊢ <;> omega
theorem least_delay {W : List Wr} {r c fr d : Int} (hd : 0 ≤ d) : leastP ⟨W.map (dly fr d), r, c⟩ ≤ leastP ⟨W, r, c⟩ := leN_mono fun s => mxS_delay hd
/-- what moments of different sizes prove -/
def needN (p : Ply) (M : List (Int × Int)) : Nat := (M.map fun m => crw p m.1 m.2).sum
theorem needN_le {p : Ply} (hw : ∀ w, w ∈ p.W → 1 ≤ w.s ∧ w.s ≤ 99) : ∀ (M : List (Int × Int)), (M.map (·.1)).Nodup → needN p M ≤ leastP p := by
  have key : ∀ (n : Nat) (M : List (Int × Int)), (M.map (·.1)).Nodup → (∀ m, m ∈ M → 1 ≤ m.1 → m.1 ≤ n) → needN p M ≤ leN p n := by
    intro n
    induction n with
    | zero =>
      intro M _ hm
      have : needN p M = 0 := by
        simp only [needN]
        induction M with
        | nil => rfl
        | cons m M ih =>
          have h0 : crw p m.1 m.2 = 0 := by
            rw [crw, List.countP_eq_zero]
            intro w hw2 hb
            have := inB_iff.1 hb
            have := hw w hw2
            have := hm m (by simp) (by omega)
            omega
          simp only [List.map_cons, List.sum_cons, h0, Nat.zero_add]
          exact ih (by rename_i hn; exact (List.nodup_cons.1 (by simpa using hn)).2) fun m' hm' => hm m' (List.mem_cons_of_mem _ hm')
      omega
    | succ n ih =>
      intro M hn hm
      by_cases e : ((n + 1 : Nat) : Int) ∈ M.map (·.1)
      · obtain ⟨m, hmem, em⟩ := List.mem_map.1 e
        obtain ⟨A, B, rfl⟩ := List.append_of_mem hmem
        have hn2 : ((A ++ B).map (·.1)).Nodup ∧ ∀ x, x ∈ A ++ B → x.1 ≠ m.1 := by
          have hp : (A ++ m :: B).Perm (m :: (A ++ B)) := List.perm_middle
          have := ((hp.map (·.1)).nodup_iff).1 hn
          rw [List.map_cons, List.nodup_cons] at this
          exact ⟨this.2, fun x hx e => this.1 (by rw [← e]; exact List.mem_map.2 ⟨x, hx, rfl⟩)⟩
        have h1 := ih (A ++ B) hn2.1 fun x hx hx1 => by
          have := hm x (by simp only [List.mem_append, List.mem_cons] at hx ⊢; rcases hx with h | h; exact Or.inl h; exact Or.inr (Or.inr h)) hx1
          have := hn2.2 x hx
          omega
        have h2 : needN p (A ++ m :: B) = needN p (A ++ B) + crw p m.1 m.2 := by
          simp only [needN, List.map_append, List.map_cons, List.sum_append, List.sum_cons]; omega
        have h3 := crw_le (p := p) (s := m.1) (a := m.2)
        rw [h2, leN_step, ← em]
        omega
      · have h1 := ih M hn fun x hx hx1 => by
          have := hm x hx hx1
          have : x.1 ≠ ((n + 1 : Nat) : Int) := fun e2 => e (by rw [← e2]; exact List.mem_map.2 ⟨x, hx, rfl⟩)
          omega
        rw [leN_step]; omega
  intro M hn
  -- sizes above 99 have no wearings
  have hsp : needN p M = needN p (M.filter fun m => decide (m.1 ≤ 99)) := by
    clear hn
    induction M with
    | nil => rfl
    | cons m M ih =>
      simp only [List.filter_cons]
      by_cases h : m.1 ≤ 99
      · simp only [h, decide_true, if_true, needN, List.map_cons, List.sum_cons]
        simp only [needN] at ih; omega
      · have h0 : crw p m.1 m.2 = 0 := by
          rw [crw, List.countP_eq_zero]
          intro w hw2 hb
          have := inB_iff.1 hb
          have := hw w hw2
          omega
        simp only [h, decide_false, Bool.false_eq_true, if_false, needN, List.map_cons, List.sum_cons, h0, Nat.zero_add]
        exact ih
  rw [hsp]
  refine key 99 _ (List.Nodup.sublist (List.Sublist.map _ List.filter_sublist) hn) fun m hm _ => ?_
  have := (List.mem_filter.1 hm).2
  simpa using this
end Go.Proofs.Ytkmcdiajcnejiaa.Vm
