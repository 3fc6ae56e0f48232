/- Plans of commissions: on each day what is due first is worked at first; what follows from it. No program is named here. -/
import Derived.Test.YtdipmhdekjlifaaSrA
namespace Go.Proofs.Ytdipmhdekjlifaa.Vm
open Go
set_option maxRecDepth 100000
set_option linter.unusedSimpArgs false
set_option linter.unusedVariables false
attribute [-simp] List.getD_eq_getElem?_getD
def sumN (f : Nat → Int) : Nat → Int
  | 0 => 0
  | n + 1 => sumN f n + f n
theorem sumN_congr {f g : Nat → Int} : ∀ {n : Nat}, (∀ i, i < n → f i = g i) → sumN f n = sumN g n
  | 0, _ => rfl
  | n + 1, h => by rw [sumN, sumN, h n (by omega), sumN_congr fun i hi => h i (show i < n + 1 by omega)]
theorem sumN_add {f g : Nat → Int} : ∀ {n : Nat}, sumN (fun i => f i + g i) n = sumN f n + sumN g n
  | 0 => rfl
  | n + 1 => by simp only [sumN, sumN_add (n := n)]; omega
theorem sumN_zero : ∀ {n : Nat}, sumN (fun _ => 0) n = 0
  | 0 => rfl
  | n + 1 => by simp only [sumN, sumN_zero (n := n)]; rfl
theorem sumN_le {f g : Nat → Int} : ∀ {n : Nat}, (∀ i, i < n → f i ≤ g i) → sumN f n ≤ sumN g n
  | 0, _ => Int.le_refl _
  | n + 1, h => by
    have h1 := sumN_le (f := f) (g := g) (n := n) fun i hi => h i (by omega)
    have h2 := h n (by omega)
    simp only [sumN]; omega
theorem sumN_lt {f g : Nat → Int} {j : Nat} : ∀ {n : Nat}, (∀ i, i < n → f i ≤ g i) → j < n → f j < g j → sumN f n < sumN g n
  | n + 1, h, hj, hlt => by
    have h2 := h n (by omega)
    simp only [sumN]
    by_cases e : j = n
    · subst e
      have h1 := sumN_le (f := f) (g := g) (n := j) fun i hi => h i (by omega)
      omega
    · have h1 := sumN_lt (f := f) (g := g) (n := n) (fun i hi => h i (by omega)) (by omega) hlt
      omega
theorem sumN_upd {f : Nat → Int} {i : Nat} {x : Int} : ∀ {n : Nat}, i < n → sumN (fun k => if k = i then x else f k) n = sumN f n - f i + x
  | n + 1, h => by
    simp only [sumN]
    by_cases e : i = n
    · subst e
      rw [if_pos rfl, sumN_congr (g := f) fun k hk => by rw [if_neg (by omega)]]; omega
    · rw [if_neg (by omega), sumN_upd (f := f) (n := n) (by omega)]; omega
/-- sums over days, over commissions, in either order -/
theorem sumN_swap {F : Nat → Nat → Int} : ∀ {n m : Nat}, sumN (fun d => sumN (F d) m) n = sumN (fun k => sumN (fun d => F d k) n) m
  | 0, m => by simp only [sumN]; exact sumN_zero.symm
  | n + 1, m => by simp only [sumN]; rw [sumN_swap (n := n), ← sumN_add]

structure DS where
  left : Int
  w : Nat → Int
  m : Nat → Int
def avB (J : List Jb) (d : Int) (i : Nat) : Bool := decide ((J.getD i default).r ≤ d) && decide (d ≤ (J.getD i default).d)
def stepJ (J : List Jb) (d : Int) (s : DS) (i : Nat) : DS :=
  if avB J d i = true then ⟨s.left - min s.left (s.w i), fun k => if k = i then s.w i - min s.left (s.w i) else s.w k, fun k => if k = i then min s.left (s.w i) else s.m k⟩ else s
def dayF (J : List Jb) (d : Int) (o : List Nat) (s : DS) : DS := o.foldl (stepJ J d) s
/-- the work that is left before day n -/
def wkD (S : List Int) (J : List Jb) (o : List Nat) : Nat → Nat → Int
  | 0 => fun i => (J.getD i default).w
  | n + 1 => (dayF J n o ⟨S.getD n 0, wkD S J o n, fun _ => 0⟩).w
def mtD (S : List Int) (J : List Jb) (o : List Nat) (n : Nat) : Nat → Int := (dayF J n o ⟨S.getD n 0, wkD S J o n, fun _ => 0⟩).m

/-- what holds amid a day -/
structure DayI (J : List Jb) (d : Int) (n : Nat) (S : Int) (w0 : Nat → Int) (o1 : List Nat) (s : DS) : Prop where
  left : 0 ≤ s.left
  m0 : ∀ i, 0 ≤ s.m i
  wn : ∀ i, 0 ≤ s.w i
  eq : ∀ i, s.w i = w0 i - s.m i
  mem : ∀ i, s.m i ≠ 0 → i ∈ o1 ∧ avB J d i = true
  sum : s.left = S - sumN s.m n
  full : ∀ i, i ∈ o1 → avB J d i = true → 0 < s.w i → s.left = 0 ∧ ∀ k, (J.getD i default).d < (J.getD k default).d → s.m k = 0
/-- an order of the commissions by their last days -/
structure OrdJ (J : List Jb) (o : List Nat) : Prop where
  nd : o.Nodup
  mem : ∀ i, i ∈ o ↔ i < J.length
  srt : o.Pairwise fun i k => (J.getD i default).d ≤ (J.getD k default).d
theorem dayI_step {J : List Jb} {d : Int} {S : Int} {w0 : Nat → Int} {o1 : List Nat} {i : Nat} {s : DS} (hi : i < J.length) (hn : i ∉ o1) (hs : ∀ k ∈ o1, (J.getD k default).d ≤ (J.getD i default).d) (h : DayI J d J.length S w0 o1 s) :
    DayI J d J.length S w0 (o1 ++ [i]) (stepJ J d s i) := by
  have hm0 : s.m i = 0 := by
    apply Classical.byContradiction
    intro hne
    exact hn (h.mem i hne).1
  unfold stepJ
  by_cases ha : avB J d i = true
  · rw [if_pos ha]
    have hl := h.left
    have hw := h.wn i
    have hmin : 0 ≤ min s.left (s.w i) ∧ min s.left (s.w i) ≤ s.left ∧ min s.left (s.w i) ≤ s.w i := by omega
    refine ⟨by simp only; omega, fun k => ?_, fun k => ?_, fun k => ?_, fun k hk => ?_, ?_, fun k hk hak hwk => ?_⟩
    · simp only; split
      · omega
      · exact h.m0 k
    · simp only; split
      · omega
      · exact h.wn k
    · simp only
      split
      · rename_i e; subst e; have := h.eq k; omega
      · exact h.eq k
    · simp only at hk
      split at hk
      · rename_i e; subst e; exact ⟨by simp, ha⟩
      · obtain ⟨h1, h2⟩ := h.mem k hk
        exact ⟨List.mem_append_left _ h1, h2⟩
    · simp only; rw [sumN_upd hi, hm0, h.sum]; omega
    · simp only at hwk ⊢
      by_cases e : k = i
      · subst e
        rw [if_pos rfl] at hwk
        refine ⟨by omega, fun q hq => ?_⟩
        rw [if_neg (fun e => by subst e; omega)]
        apply Classical.byContradiction
        intro hne
        have := hs q (h.mem q hne).1
        omega
      · rw [if_neg e] at hwk
        have hk1 : k ∈ o1 := by
          rcases List.mem_append.1 hk with h1 | h1
          · exact h1
          · exact absurd (by simpa using h1) e
        obtain ⟨f1, f2⟩ := h.full k hk1 hak hwk
        refine ⟨by omega, fun q hq => ?_⟩
        split
        · omega
        · exact f2 q hq
  · rw [if_neg ha]
    refine ⟨h.left, h.m0, h.wn, h.eq, fun k hk => ?_, h.sum, fun k hk hak hwk => ?_⟩
    · obtain ⟨h1, h2⟩ := h.mem k hk
      exact ⟨List.mem_append_left _ h1, h2⟩
    · rcases List.mem_append.1 hk with h1 | h1
      · exact h.full k h1 hak hwk
      · have : k = i := by simpa using h1
        subst this; exact absurd hak ha
theorem dayI_all {J : List Jb} {d : Int} {S : Int} {w0 : Nat → Int} : ∀ {o o1 : List Nat} {s : DS}, OrdJ J (o1 ++ o) → DayI J d J.length S w0 o1 s → DayI J d J.length S w0 (o1 ++ o) (dayF J d o s)
  | [], o1, s, ho, h => by simpa [dayF] using h
  | i :: o, o1, s, ho, h => by
    have h1 : i < J.length := (ho.mem i).1 (by simp)
    have h2 : i ∉ o1 := by
      have := ho.nd
      rw [List.nodup_append] at this
      intro hi
      exact this.2.2 i hi i (by simp) rfl
    have h3 : ∀ k ∈ o1, (J.getD k default).d ≤ (J.getD i default).d := fun k hk => by
      have := ho.srt
      rw [List.pairwise_append] at this
      exact this.2.2 k hk i (by simp)
    have e : o1 ++ i :: o = (o1 ++ [i]) ++ o := by simp
    rw [e] at ho ⊢
    have := dayI_all (o := o) ho (dayI_step h1 h2 h3 h)
    simpa [dayF] using this
theorem dayI_start {J : List Jb} {d : Int} {S : Int} {w0 : Nat → Int} (hS : 0 ≤ S) (hw : ∀ i, 0 ≤ w0 i) : DayI J d J.length S w0 [] ⟨S, w0, fun _ => 0⟩ :=
  ⟨hS, fun _ => Int.le_refl _, hw, fun i => by simp, fun i h => absurd rfl h, by simp only [sumN_zero]; omega, fun i h => by simp at h⟩
section
variable {S : List Int} {J : List Jb} {o : List Nat}
theorem dfl_w {i : Nat} (h : ¬ i < J.length) : (J.getD i default) = default := by
  simp only [List.getD_eq_getElem?_getD, List.getElem?_eq_none (Nat.le_of_not_lt h), Option.getD_none]
theorem day_fact (hval : valJ S J = 0) (ho : OrdJ J o) : ∀ {n : Nat}, n ≤ S.length → (∀ i, 0 ≤ wkD S J o n i) ∧ (n < S.length → DayI J n J.length (S.getD n 0) (wkD S J o n) o (dayF J n o ⟨S.getD n 0, wkD S J o n, fun _ => 0⟩))
  | 0, h => by
    obtain ⟨g1, g2, g3, g4⟩ := valJ_ok hval
    have hw : ∀ i, 0 ≤ wkD S J o 0 i := fun i => by
      by_cases hi : i < J.length
      · exact (g4 i hi).1
      · show 0 ≤ (J.getD i default).w
        rw [dfl_w hi]; exact Int.le_refl _
    refine ⟨hw, fun hn => ?_⟩
    have := dayI_all (o := o) (o1 := []) (by simpa using ho) (dayI_start (d := ((0 : Nat) : Int)) (g3 0 hn).1 hw)
    simpa using this
  | n + 1, h => by
    obtain ⟨g1, g2, g3, g4⟩ := valJ_ok hval
    have ih := (day_fact hval ho (n := n) (by omega)).2 (by omega)
    have hw : ∀ i, 0 ≤ wkD S J o (n + 1) i := ih.wn
    refine ⟨hw, fun hn => ?_⟩
    have := dayI_all (o := o) (o1 := []) (by simpa using ho) (dayI_start (d := ((n + 1 : Nat) : Int)) (g3 (n + 1) hn).1 hw)
    simpa using this
theorem wk_nn (hval : valJ S J = 0) (ho : OrdJ J o) {n : Nat} (hn : n ≤ S.length) (i : Nat) : 0 ≤ wkD S J o n i := (day_fact hval ho hn).1 i
theorem wk_step (hval : valJ S J = 0) (ho : OrdJ J o) {n : Nat} (hn : n < S.length) (i : Nat) : wkD S J o (n + 1) i = wkD S J o n i - mtD S J o n i := ((day_fact hval ho (Nat.le_of_lt hn)).2 hn).eq i
theorem mt_nn (hval : valJ S J = 0) (ho : OrdJ J o) {n : Nat} (hn : n < S.length) (i : Nat) : 0 ≤ mtD S J o n i := ((day_fact hval ho (Nat.le_of_lt hn)).2 hn).m0 i
theorem mt_av (hval : valJ S J = 0) (ho : OrdJ J o) {n : Nat} (hn : n < S.length) {i : Nat} (h : mtD S J o n i ≠ 0) : i < J.length ∧ (J.getD i default).r ≤ n ∧ (n : Int) ≤ (J.getD i default).d := by
  obtain ⟨h1, h2⟩ := ((day_fact hval ho (Nat.le_of_lt hn)).2 hn).mem i h
  simp only [avB, Bool.and_eq_true, decide_eq_true_eq] at h2
  exact ⟨(ho.mem i).1 h1, h2⟩
theorem mt_sum (hval : valJ S J = 0) (ho : OrdJ J o) {n : Nat} (hn : n < S.length) : sumN (mtD S J o n) J.length ≤ S.getD n 0 := by
  have h := (day_fact hval ho (Nat.le_of_lt hn)).2 hn
  have h1 := h.left
  have h2 := h.sum
  unfold mtD
  omega
theorem mt_le (hval : valJ S J = 0) (ho : OrdJ J o) {n : Nat} (hn : n < S.length) (i : Nat) : mtD S J o n i ≤ 1440 := by
  by_cases hz : mtD S J o n i = 0
  · omega
  · have hi := (mt_av hval ho hn hz).1
    have h1 := mt_sum hval ho hn
    have h2 := ((valJ_ok hval).2.2.1 n hn).2
    have h3 : sumN (fun k => if k = i then mtD S J o n i else 0) J.length ≤ sumN (mtD S J o n) J.length := sumN_le fun k _ => by
      split
      · rename_i e; subst e; exact Int.le_refl _
      · exact mt_nn hval ho hn k
    rw [sumN_upd hi, sumN_zero] at h3
    omega
/-- where a commission that could be worked at is not done, the day is full of what is due no later -/
theorem mt_full (hval : valJ S J = 0) (ho : OrdJ J o) {n : Nat} (hn : n < S.length) {i : Nat} (hi : i < J.length) (h1 : (J.getD i default).r ≤ n) (h2 : (n : Int) ≤ (J.getD i default).d) (h3 : 0 < wkD S J o (n + 1) i) :
    sumN (mtD S J o n) J.length = S.getD n 0 ∧ ∀ k, (J.getD i default).d < (J.getD k default).d → mtD S J o n k = 0 := by
  have h := (day_fact hval ho (Nat.le_of_lt hn)).2 hn
  obtain ⟨f1, f2⟩ := h.full i ((ho.mem i).2 hi) (by simp [avB, h1, h2]) h3
  have := h.sum
  exact ⟨by unfold mtD; omega, f2⟩
theorem wk_mono (hval : valJ S J = 0) (ho : OrdJ J o) {i a : Nat} : ∀ {b : Nat}, a ≤ b → b ≤ S.length → wkD S J o b i ≤ wkD S J o a i
  | 0, h, _ => by have : a = 0 := by omega
                  subst this; exact Int.le_refl _
  | b + 1, h, hb => by
    by_cases e : a = b + 1
    · subst e; exact Int.le_refl _
    · have h1 := wk_mono hval ho (i := i) (a := a) (b := b) (by omega) (by omega)
      have h2 := wk_step hval ho (n := b) (by omega) i
      have h3 := mt_nn hval ho (n := b) (by omega) i
      omega
theorem wk_days (hval : valJ S J = 0) (ho : OrdJ J o) {i a : Nat} : ∀ {n : Nat}, a + n ≤ S.length → sumN (fun x => mtD S J o (a + x) i) n = wkD S J o a i - wkD S J o (a + n) i
  | 0, _ => by simp [sumN]
  | n + 1, h => by
    have h1 := wk_days hval ho (i := i) (a := a) (n := n) (by omega)
    have h2 := wk_step hval ho (n := a + n) (by omega) i
    simp only [sumN, h1]
    rw [show a + (n + 1) = a + n + 1 by omega]; omega
theorem sumW_N {a n : Nat} : sumW S a n = sumN (fun x => S.getD (a + x) 0) n := by
  induction n with
  | zero => rfl
  | succ n ih => simp only [sumW, sumN, ih]
theorem inJ_N {a b n : Nat} : inJ J a b n = sumN (fun k => if (a : Int) ≤ (J.getD k default).r ∧ (J.getD k default).d ≤ b then (J.getD k default).w else 0) n := by
  induction n with
  | zero => rfl
  | succ n ih => simp only [inJ, sumN, ih]
/-- WHAT IS DUE FIRST, FIRST: if something is left undone, a window excludes every plan -/
theorem edf (hval : valJ S J = 0) (ho : OrdJ J o) {j : Nat} (hj : j < J.length) (hleft : 0 < wkD S J o S.length j) : ∃ a b, a ≤ b ∧ b < S.length ∧ spareP S J a b < 0 := by
  obtain ⟨g1, g2, g3, g4⟩ := valJ_ok hval
  have gj := g4 j hj
  obtain ⟨D, hD⟩ := Int.eq_ofNat_of_zero_le (show 0 ≤ (J.getD j default).d by omega)
  obtain ⟨R, hR⟩ := Int.eq_ofNat_of_zero_le gj.2.2.1
  have hDS : D < S.length := by omega
  let full : Nat → Prop := fun d => sumN (mtD S J o d) J.length = S.getD d 0 ∧ ∀ k, (D : Int) < (J.getD k default).d → mtD S J o d k = 0
  let P : Nat → Prop := fun t => ∀ d, t ≤ d → d ≤ D → full d
  have hPR : P R := fun d h1 h2 => by
    have hpos : 0 < wkD S J o (d + 1) j := Int.lt_of_lt_of_le hleft (wk_mono hval ho (by omega) (Nat.le_refl _))
    have := mt_full hval ho (n := d) (by omega) hj (by omega) (by omega) hpos
    rw [hD] at this; exact this
  obtain ⟨t, ht, hmin⟩ : ∃ t, P t ∧ ∀ u, u < t → ¬ P u := by
    have : ∀ n, P n → ∃ t, P t ∧ ∀ u, u < t → ¬ P u := by
      intro n
      induction n using Nat.strongRecOn with
      | _ n ih =>
        intro hn
        by_cases h : ∃ u, u < n ∧ P u
        · obtain ⟨u, h1, h2⟩ := h; exact ih u h1 h2
        · exact ⟨n, hn, fun u h1 h2 => h ⟨u, h1, h2⟩⟩
    exact this R hPR
  have htR : t ≤ R := by
    rcases Nat.lt_or_ge R t with h | h
    · exact absurd hPR (hmin R h)
    · exact h
  have htD : t ≤ D := by omega
  have claim : ∀ d k, t ≤ d → d ≤ D → mtD S J o d k ≠ 0 → (t : Int) ≤ (J.getD k default).r ∧ (J.getD k default).d ≤ D := by
    intro d k h1 h2 hne
    obtain ⟨c1, c2, c3⟩ := mt_av hval ho (n := d) (by omega) hne
    have c4 : (J.getD k default).d ≤ D := by
      apply Classical.byContradiction
      intro hn
      exact hne ((ht d h1 h2).2 k (by omega))
    refine ⟨?_, c4⟩
    apply Classical.byContradiction
    intro hlt
    have ht0 : 0 < t := by have := (g4 k c1).2.2.1; omega
    apply hmin (t - 1) (by omega)
    intro d' h1' h2'
    by_cases e : d' = t - 1
    · subst e
      have hpos : 0 < wkD S J o (t - 1 + 1) k := by
        have q1 := wk_mono hval ho (i := k) (a := t - 1 + 1) (b := d) (by omega) (by omega)
        have q2 := wk_step hval ho (n := d) (by omega) k
        have q3 := wk_nn hval ho (n := d + 1) (by omega) k
        have q4 := mt_nn hval ho (n := d) (by omega) k
        omega
      obtain ⟨f1, f2⟩ := mt_full hval ho (n := t - 1) (by omega) c1 (by omega) (by omega) hpos
      exact ⟨f1, fun q hq => f2 q (by omega)⟩
    · exact ht d' (by omega) h2'
  refine ⟨t, D, htD, hDS, ?_⟩
  unfold spareP
  rw [sumW_N, inJ_N]
  have e1 : sumN (fun x => S.getD (t + x) 0) (D + 1 - t) = sumN (fun x => sumN (mtD S J o (t + x)) J.length) (D + 1 - t) := sumN_congr fun x hx => ((ht (t + x) (by omega) (by omega)).1).symm
  rw [e1, sumN_swap (F := fun x k => mtD S J o (t + x) k)]
  have e2 : sumN (fun k => sumN (fun x => mtD S J o (t + x) k) (D + 1 - t)) J.length < sumN (fun k => if (t : Int) ≤ (J.getD k default).r ∧ (J.getD k default).d ≤ D then (J.getD k default).w else 0) J.length := by
    have hdays : ∀ k, sumN (fun x => mtD S J o (t + x) k) (D + 1 - t) = wkD S J o t k - wkD S J o (D + 1) k := fun k => by
      rw [wk_days hval ho (by omega), show t + (D + 1 - t) = D + 1 by omega]
    refine sumN_lt (j := j) (fun k hk => ?_) hj ?_
    · by_cases hw : (t : Int) ≤ (J.getD k default).r ∧ (J.getD k default).d ≤ D
      · rw [if_pos hw, hdays]
        have q1 := wk_mono hval ho (i := k) (a := 0) (b := t) (by omega) (by omega)
        have q2 := wk_nn hval ho (n := D + 1) (by omega) k
        have q3 : wkD S J o 0 k = (J.getD k default).w := rfl
        omega
      · rw [if_neg hw, sumN_congr (g := fun _ => 0) fun x hx => ?_, sumN_zero]
        · exact Int.le_refl _
        · apply Classical.byContradiction
          intro hne
          exact hw (claim (t + x) k (by omega) (by omega) hne)
    · rw [if_pos ⟨by omega, by omega⟩, hdays]
      have q1 := wk_mono hval ho (i := j) (a := 0) (b := t) (by omega) (by omega)
      have q2 := wk_mono hval ho (i := j) (a := D + 1) (b := S.length) (by omega) (Nat.le_refl _)
      have q3 : wkD S J o 0 j = (J.getD j default).w := rfl
      omega
  omega
end
end Go.Proofs.Ytdipmhdekjlifaa.Vm
