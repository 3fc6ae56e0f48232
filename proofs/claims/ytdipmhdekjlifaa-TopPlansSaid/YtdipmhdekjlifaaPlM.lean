/- Plans of commissions: the plan that is made is right where all is done; no plan is right where a window excludes it. -/
import Derived.Test.YtdipmhdekjlifaaPlL
namespace Go.Proofs.Ytdipmhdekjlifaa.Vm
open Go
set_option maxRecDepth 100000
set_option linter.unusedSimpArgs false
set_option linter.unusedVariables false
attribute [-simp] List.getD_eq_getElem?_getD
def planI (M : Nat → Nat → Int) (d k : Nat) : List Slt := ((List.range k).filter fun i => decide (0 < M d i)).map fun i : Nat => ⟨(d : Int), (i : Int), M d i⟩
def planL (M : Nat → Nat → Int) (n : Nat) : List Slt := (List.range n).flatMap fun d => planI M d 8
theorem planI_succ {M : Nat → Nat → Int} {d k : Nat} : planI M d (k + 1) = if 0 < M d k then planI M d k ++ [⟨d, k, M d k⟩] else planI M d k := by
  simp only [planI, List.range_succ, List.filter_append, List.map_append]
  by_cases h : 0 < M d k
  · simp [h]
  · simp [h]
theorem planL_succ {M : Nat → Nat → Int} {n : Nat} : planL M (n + 1) = planL M n ++ planI M n 8 := by simp [planL, List.range_succ]
theorem planI_mem {M : Nat → Nat → Int} {d k : Nat} {q : Slt} (h : q ∈ planI M d k) : ∃ i : Nat, q = ⟨d, i, M d i⟩ ∧ i < k ∧ 0 < M d i := by
  simp only [planI, List.mem_map, List.mem_filter, List.mem_range, decide_eq_true_eq] at h
  obtain ⟨i, ⟨h1, h2⟩, rfl⟩ := h
  exact ⟨i, rfl, h1, h2⟩
theorem planL_mem {M : Nat → Nat → Int} {n : Nat} {q : Slt} (h : q ∈ planL M n) : ∃ d i : Nat, q = ⟨d, i, M d i⟩ ∧ d < n ∧ i < 8 ∧ 0 < M d i := by
  simp only [planL, List.mem_flatMap, List.mem_range] at h
  obtain ⟨d, h1, h2⟩ := h
  obtain ⟨i, h3, h4, h5⟩ := planI_mem h2
  exact ⟨d, i, h3, h1, h4, h5⟩
theorem planI_len {M : Nat → Nat → Int} {d k : Nat} : (planI M d k).length ≤ k := by
  simp only [planI, List.length_map]
  exact Nat.le_trans (List.length_filter_le _ _) (by simp)
theorem planL_len {M : Nat → Nat → Int} : ∀ {n : Nat}, (planL M n).length ≤ 8 * n
  | 0 => by simp [planL]
  | n + 1 => by
    rw [planL_succ, List.length_append]
    have := planL_len (M := M) (n := n)
    have := planI_len (M := M) (d := n) (k := 8)
    omega
def ltQ (q p : Slt) : Prop := q.d < p.d ∨ (q.d = p.d ∧ q.j < p.j)
theorem planI_pw {M : Nat → Nat → Int} {d k : Nat} : (planI M d k).Pairwise ltQ := by
  unfold planI
  rw [List.pairwise_map]
  refine List.Pairwise.filter _ (List.Pairwise.imp ?_ List.pairwise_lt_range)
  intro a b h
  exact Or.inr ⟨rfl, by simp only; omega⟩
theorem planL_pw {M : Nat → Nat → Int} : ∀ {n : Nat}, (planL M n).Pairwise ltQ
  | 0 => by simp [planL]
  | n + 1 => by
    rw [planL_succ, List.pairwise_append]
    refine ⟨planL_pw, planI_pw, fun q hq p hp => ?_⟩
    obtain ⟨d, i, rfl, h1, _⟩ := planL_mem hq
    obtain ⟨i', rfl, _⟩ := planI_mem hp
    exact Or.inl (by simp only; omega)
theorem pw_getD {Q : List Slt} (h : Q.Pairwise ltQ) {i k : Nat} (hik : i < k) (hk : k < Q.length) : ltQ (Q.getD i default) (Q.getD k default) := by
  rw [List.pairwise_iff_getElem] at h
  have := h i k (by omega) hk hik
  rw [getD_of (by omega), getD_of hk]; exact this
/-! sums over slots, by the list -/
def dayL (Q : List Slt) (d : Int) : Int := (Q.map fun q => if q.d = d then capM q else 0).sum
def jobL (Q : List Slt) (j : Int) : Int := (Q.map fun q => if q.j = j then capM q else 0).sum
theorem take_snocD {α : Type} [Inhabited α] {l : List α} {n : Nat} (h : n < l.length) : l.take (n + 1) = l.take n ++ [l.getD n default] := by
  rw [List.take_succ_eq_append_getElem h, getD_of h]
theorem dayS_L {Q : List Slt} {d : Int} : ∀ {n : Nat}, n ≤ Q.length → dayS Q d n = dayL (Q.take n) d
  | 0, _ => by simp [dayS, dayL]
  | n + 1, h => by
    have ih := dayS_L (Q := Q) (d := d) (n := n) (by omega)
    rw [take_snocD (by omega)]
    simp only [dayS, ih, dayL, List.map_append, List.map_cons, List.map_nil, List.sum_append, List.sum_cons, List.sum_nil]; omega
theorem jobS_L {Q : List Slt} {d : Int} : ∀ {n : Nat}, n ≤ Q.length → jobS Q d n = jobL (Q.take n) d
  | 0, _ => by simp [jobS, jobL]
  | n + 1, h => by
    have ih := jobS_L (Q := Q) (d := d) (n := n) (by omega)
    rw [take_snocD (by omega)]
    simp only [jobS, ih, jobL, List.map_append, List.map_cons, List.map_nil, List.sum_append, List.sum_cons, List.sum_nil]; omega
theorem dayL_app {Q P : List Slt} {d : Int} : dayL (Q ++ P) d = dayL Q d + dayL P d := by simp [dayL]
theorem jobL_app {Q P : List Slt} {d : Int} : jobL (Q ++ P) d = jobL Q d + jobL P d := by simp [jobL]
theorem dayL_I {M : Nat → Nat → Int} {d e : Nat} : ∀ {k : Nat}, (∀ i, i < k → 0 ≤ M d i ∧ M d i ≤ 40000) → dayL (planI M d k) e = if d = e then sumN (M d) k else 0
  | 0, _ => by simp [planI, dayL, sumN]
  | k + 1, h => by
    have ih := dayL_I (M := M) (d := d) (e := e) (k := k) fun i hi => h i (by omega)
    have hk := h k (by omega)
    rw [planI_succ]
    split
    · rw [dayL_app, ih]
      simp only [dayL, List.map_cons, List.map_nil, List.sum_cons, List.sum_nil, capM, sumN]
      by_cases e1 : d = e
      · subst e1; simp only [if_true]; omega
      · have e2 : ¬ (d : Int) = e := by omega
        rw [if_neg e2]; simp [e1]
    · rw [ih]; simp only [sumN]
      split <;> omega
theorem jobL_I {M : Nat → Nat → Int} {d j : Nat} : ∀ {k : Nat}, (∀ i, i < k → 0 ≤ M d i ∧ M d i ≤ 40000) → jobL (planI M d k) j = if j < k then M d j else 0
  | 0, _ => by simp [planI, jobL]
  | k + 1, h => by
    have ih := jobL_I (M := M) (d := d) (j := j) (k := k) fun i hi => h i (by omega)
    have hk := h k (by omega)
    rw [planI_succ]
    split
    · rw [jobL_app, ih]
      simp only [jobL, List.map_cons, List.map_nil, List.sum_cons, List.sum_nil, capM]
      by_cases e1 : k = j
      · subst e1; rw [if_neg (by omega), if_pos rfl, if_pos (by omega)]; omega
      · rw [if_neg (by omega : ¬ (k : Int) = j)]
        split <;> split <;> omega
    · rw [ih]
      by_cases e1 : k = j
      · subst e1; rw [if_neg (by omega), if_pos (by omega)]; omega
      · split <;> split <;> omega
theorem dayL_P {M : Nat → Nat → Int} {e : Nat} : ∀ {n : Nat}, (∀ d i, d < n → 0 ≤ M d i ∧ M d i ≤ 40000) → dayL (planL M n) e = if e < n then sumN (M e) 8 else 0
  | 0, _ => by simp [planL, dayL]
  | n + 1, h => by
    rw [planL_succ, dayL_app, dayL_P (n := n) fun d i hd => h d i (by omega), dayL_I fun i _ => h n i (by omega)]
    by_cases e1 : n = e
    · subst e1; rw [if_neg (by omega), if_pos rfl, if_pos (by omega)]; omega
    · rw [if_neg e1]
      split <;> split <;> omega
theorem jobL_P {M : Nat → Nat → Int} {j : Nat} (hj : j < 8) : ∀ {n : Nat}, (∀ d i, d < n → 0 ≤ M d i ∧ M d i ≤ 40000) → jobL (planL M n) j = sumN (fun d => M d j) n
  | 0, _ => by simp [planL, jobL, sumN]
  | n + 1, h => by
    rw [planL_succ, jobL_app, jobL_P hj (n := n) fun d i hd => h d i (by omega), jobL_I fun i _ => h n i (by omega), if_pos hj]; rfl
theorem sumN_tail {f : Nat → Int} {m : Nat} : ∀ {n : Nat}, m ≤ n → (∀ i, m ≤ i → f i = 0) → sumN f n = sumN f m
  | 0, h, _ => by have : m = 0 := by omega
                  subst this; rfl
  | n + 1, h, hz => by
    by_cases e : m = n + 1
    · subst e; rfl
    · simp only [sumN, sumN_tail (n := n) (by omega) hz, hz n (by omega)]; omega
section
variable {S : List Int} {J : List Jb} {o : List Nat}
/-- the plan that is made is right where all is done -/
theorem plan_right (hval : valJ S J = 0) (ho : OrdJ J o) (hdone : ∀ i, i < J.length → wkD S J o S.length i = 0) : planP S J (planL (mtD S J o) S.length) = 0 := by
  obtain ⟨g1, g2, g3, g4⟩ := valJ_ok hval
  have hM : ∀ d i, d < S.length → 0 ≤ mtD S J o d i ∧ mtD S J o d i ≤ 40000 := fun d i hd => ⟨mt_nn hval ho hd i, by have := mt_le hval ho hd i; omega⟩
  generalize hQ : planL (mtD S J o) S.length = Q
  have hmem : ∀ i, i < Q.length → ∃ d i' : Nat, Q.getD i default = ⟨d, i', mtD S J o d i'⟩ ∧ d < S.length ∧ i' < 8 ∧ 0 < mtD S J o d i' := fun i hi => by
    refine planL_mem (n := S.length) ?_
    rw [hQ, getD_of hi]; exact List.getElem_mem hi
  have h1 : firstE (fun i => slotE S J (Q.getD i default)) Q.length = 0 := by
    have : ∀ n, n ≤ Q.length → firstE (fun i => slotE S J (Q.getD i default)) n = 0 := by
      intro n
      induction n with
      | zero => intro _; rfl
      | succ n ih =>
        intro hn
        simp only [firstE, ih (by omega), ne_eq, not_true_eq_false, if_false]
        obtain ⟨d, i, e, q1, q2, q3⟩ := hmem n (by omega)
        obtain ⟨r1, r2, r3⟩ := mt_av hval ho q1 (show mtD S J o d i ≠ 0 by omega)
        rw [e]
        simp only [slotE, Int.toNat_natCast]
        rw [if_neg (by omega), if_neg (by omega)]
    exact this _ (Nat.le_refl _)
  have hpw : Q.Pairwise ltQ := by rw [← hQ]; exact planL_pw
  have h2 : allN (fun i => allN (fun k => !sameB Q i k) i) Q.length = true := allN_of fun i hi => allN_of fun k hk => by
    have := pw_getD hpw hk hi
    unfold ltQ at this
    have : sameB Q i k = false := by
      simp only [sameB, Bool.and_eq_false_iff, decide_eq_false_iff_not]
      omega
    simp [this]
  have h3 : allN (fun d => decide (dayS Q d Q.length ≤ S.getD d 0)) S.length = true := allN_of fun d hd => by
    rw [decide_eq_true_eq, dayS_L (Nat.le_refl _), List.take_length, ← hQ, dayL_P hM, if_pos hd]
    rw [sumN_tail g2 fun i hi => ?_]
    · exact mt_sum hval ho hd
    · apply Classical.byContradiction
      intro hne
      have := (mt_av hval ho hd hne).1; omega
  have h4 : allN (fun j => decide (jobS Q j Q.length = (J.getD j default).w)) J.length = true := allN_of fun j hj => by
    rw [decide_eq_true_eq, jobS_L (Nat.le_refl _), List.take_length, ← hQ, jobL_P (by omega) hM]
    have := wk_days hval ho (i := j) (a := 0) (n := S.length) (by omega)
    simp only [Nat.zero_add] at this
    rw [this, hdone j hj]
    show (J.getD j default).w - 0 = _
    omega
  simp only [planP, hval, ne_eq, not_true_eq_false, if_false, h1, h2, h3, h4, Bool.true_eq_false]
theorem planP_zero {Q : List Slt} (h : planP S J Q = 0) : valJ S J = 0 ∧ (∀ i, i < Q.length → slotE S J (Q.getD i default) = 0) ∧ (∀ d, d < S.length → dayS Q d Q.length ≤ S.getD d 0) ∧ ∀ j, j < J.length → jobS Q j Q.length = (J.getD j default).w := by
  unfold planP at h
  split at h
  · rename_i h1; exact absurd h h1
  rename_i h1
  split at h
  · rename_i h2; exact absurd h h2
  rename_i h2
  split at h
  · cases h
  split at h
  · cases h
  rename_i h4
  split at h
  · cases h
  rename_i h5
  simp only [ne_eq, Decidable.not_not, Bool.not_eq_false] at h1 h2 h4 h5
  exact ⟨h1, fun i hi => firstE_zero h2 hi, fun d hd => by have := allN_at h4 hd; simpa using this, fun j hj => by have := allN_at h5 hj; simpa using this⟩
/-- where a plan is right, no window excludes it -/
theorem plan_spare {Q : List Slt} (h : planP S J Q = 0) {a b : Nat} (hab : a ≤ b ∧ b < S.length) : 0 ≤ spareP S J a b := by
  obtain ⟨hval, hsl, hday, hjob⟩ := planP_zero h
  obtain ⟨g1, g2, g3, g4⟩ := valJ_ok hval
  have key : ∀ n, n ≤ Q.length → sumN (fun k => if (a : Int) ≤ (J.getD k default).r ∧ (J.getD k default).d ≤ b then jobS Q k n else 0) J.length ≤ sumN (fun x => dayS Q ((a + x : Nat) : Int) n) (b + 1 - a) := by
    intro n
    induction n with
    | zero =>
      intro _
      rw [sumN_congr (g := fun _ => 0) fun k _ => by simp [jobS], sumN_congr (f := fun x => dayS Q ((a + x : Nat) : Int) 0) (g := fun _ => 0) fun k _ => rfl, sumN_zero, sumN_zero]
      exact Int.le_refl _
    | succ n ih =>
      intro hn
      have ih := ih (by omega)
      obtain ⟨o1, o2, o3, o4, o5⟩ := slotE_ok (hsl n (by omega))
      obtain ⟨j, hj⟩ := Int.eq_ofNat_of_zero_le o2.1
      obtain ⟨d, hd⟩ := Int.eq_ofNat_of_zero_le o1.1
      rw [hj, Int.toNat_natCast] at o4 o5
      have hjl : j < J.length := by omega
      have hc : 0 ≤ capM (Q.getD n default) := by unfold capM; omega
      have e1 : sumN (fun k => if (a : Int) ≤ (J.getD k default).r ∧ (J.getD k default).d ≤ b then jobS Q k (n + 1) else 0) J.length =
          sumN (fun k => if (a : Int) ≤ (J.getD k default).r ∧ (J.getD k default).d ≤ b then jobS Q k n else 0) J.length + if (a : Int) ≤ (J.getD j default).r ∧ (J.getD j default).d ≤ b then capM (Q.getD n default) else 0 := by
        have := sumN_upd (f := fun _ => 0) (i := j) (x := if (a : Int) ≤ (J.getD j default).r ∧ (J.getD j default).d ≤ b then capM (Q.getD n default) else 0) hjl
        rw [sumN_zero] at this
        have e : (if (a : Int) ≤ (J.getD j default).r ∧ (J.getD j default).d ≤ b then capM (Q.getD n default) else 0) = sumN (fun k => if k = j then (if (a : Int) ≤ (J.getD j default).r ∧ (J.getD j default).d ≤ b then capM (Q.getD n default) else 0) else 0) J.length := by rw [this]; omega
        rw [e, ← sumN_add]
        refine sumN_congr fun k hk => ?_
        simp only [jobS, hj]
        by_cases e2 : k = j
        · subst e2; rw [if_pos rfl, if_pos rfl]; split <;> omega
        · rw [if_neg (by omega : ¬ (j : Int) = k), if_neg e2]; split <;> omega
      rw [e1]
      have e3 : ∀ x, dayS Q ((a + x : Nat) : Int) n ≤ dayS Q ((a + x : Nat) : Int) (n + 1) := fun x => by
        simp only [dayS]; split <;> omega
      by_cases hw : (a : Int) ≤ (J.getD j default).r ∧ (J.getD j default).d ≤ b
      · rw [if_pos hw]
        have hx : d - a < b + 1 - a := by omega
        have e4 : sumN (fun x => dayS Q ((a + x : Nat) : Int) (n + 1)) (b + 1 - a) = sumN (fun x => dayS Q ((a + x : Nat) : Int) n) (b + 1 - a) + capM (Q.getD n default) := by
          have := sumN_upd (f := fun _ => 0) (i := d - a) (x := capM (Q.getD n default)) hx
          rw [sumN_zero] at this
          have e : capM (Q.getD n default) = sumN (fun k => if k = d - a then capM (Q.getD n default) else 0) (b + 1 - a) := by rw [this]; omega
          conv => rhs; rw [e]
          rw [← sumN_add]
          refine sumN_congr fun k hk => ?_
          simp only [dayS, hd]
          by_cases e2 : k = d - a
          · rw [if_pos (by omega), if_pos e2]
          · rw [if_neg (by omega), if_neg e2]
        omega
      · rw [if_neg hw]
        have := sumN_le (f := fun x => dayS Q ((a + x : Nat) : Int) n) (g := fun x => dayS Q ((a + x : Nat) : Int) (n + 1)) (n := b + 1 - a) fun x _ => e3 x
        omega
  have hk := key Q.length (Nat.le_refl _)
  have h1 : inJ J a b J.length = sumN (fun k => if (a : Int) ≤ (J.getD k default).r ∧ (J.getD k default).d ≤ b then jobS Q k Q.length else 0) J.length := by
    rw [inJ_N]; exact sumN_congr fun k hk => by rw [hjob k hk]
  have h2 : sumN (fun x => dayS Q ((a + x : Nat) : Int) Q.length) (b + 1 - a) ≤ sumW S a (b + 1 - a) := by
    rw [sumW_N]; exact sumN_le fun x hx => hday (a + x) (by omega)
  unfold spareP
  omega
theorem proofO_none (hval : valJ S J = 0) : proofO S J = none ↔ ∀ a b, a ≤ b → b < S.length → 0 ≤ spareP S J a b := by
  simp only [proofO, hval, if_true, firstO_none, winO, winG]
  constructor
  · intro h a b hab hb
    have := h a (by omega) (b - a) (by omega)
    rw [show a + (b - a) = b by omega] at this
    split at this
    · cases this
    · omega
  · intro h a ha k hk
    have := h a (a + k) (by omega) (by omega)
    rw [if_neg (by omega)]
/-- there is a plan exactly if no window excludes it -/
theorem plan_iff (hval : valJ S J = 0) (ho : OrdJ J o) : (∀ i, i < J.length → wkD S J o S.length i = 0) ↔ proofO S J = none := by
  rw [proofO_none hval]
  constructor
  · intro h a b hab hb
    exact plan_spare (plan_right hval ho h) ⟨hab, hb⟩
  · intro h i hi
    apply Classical.byContradiction
    intro hne
    have := wk_nn hval ho (Nat.le_refl S.length) i
    obtain ⟨a, b, h1, h2, h3⟩ := edf hval ho hi (by omega)
    have := h a b h1 h2
    omega
end
end Go.Proofs.Ytdipmhdekjlifaa.Vm
