/- Combing, pure: the places that the hair comes by. -/
import Derived.Test.YtjchpgkibhdoiaaDoorFwB
namespace Go.Proofs.YtjchpgkibhdoiaaDoor.Vm
open Go
set_option maxRecDepth 100000
set_option linter.unusedSimpArgs false
set_option linter.unusedVariables false
attribute [-simp] List.getD_eq_getElem?_getD

/-- the first number up to m where f says yes -/
def frs (f : Nat → Bool) : Nat → Nat
  | 0 => 0
  | m + 1 => if f (frs f m) = true then frs f m else m + 1
theorem frs_spec {f : Nat → Bool} : ∀ m, (∀ i, i < frs f m → f i = false) ∧ frs f m ≤ m ∧ (f (frs f m) = false → frs f m = m)
  | 0 => ⟨fun i hi => by simp [frs] at hi, Nat.le_refl _, fun _ => rfl⟩
  | m + 1 => by
    obtain ⟨a, b, c⟩ := frs_spec (f := f) m
    by_cases h : f (frs f m) = true
    · have e : frs f (m + 1) = frs f m := by simp [frs, h]
      rw [e]
      exact ⟨a, by omega, fun h2 => by rw [h] at h2; cases h2⟩
    · have e : frs f (m + 1) = m + 1 := by simp [frs, h]
      have h : f (frs f m) = false := by simpa using h
      rw [e]
      refine ⟨fun i hi => ?_, Nat.le_refl _, fun _ => rfl⟩
      have hm := c h
      by_cases hi2 : i < frs f m
      · exact a i hi2
      · have : i = frs f m := by omega
        rw [this]; exact h
theorem frs_true {f : Nat → Bool} {m j : Nat} (hj : j ≤ m) (h : f j = true) : f (frs f m) = true := by
  obtain ⟨a, b, c⟩ := frs_spec (f := f) m
  cases hq : f (frs f m) with
  | true => rfl
  | false =>
    have e := c hq
    by_cases h2 : j < frs f m
    · rw [a j h2] at h; cases h
    · have : j = frs f m := by omega
      rw [this, hq] at h; cases h
theorem frs_le {f : Nat → Bool} {m j : Nat} (hj : j ≤ m) (h : f j = true) : frs f m ≤ j := by
  obtain ⟨a, b, c⟩ := frs_spec (f := f) m
  by_cases h2 : j < frs f m
  · rw [a j h2] at h; cases h
  · omega
/-- so many different numbers below m -/
theorem pigeon : ∀ (m : Nat) (l : List Nat), l.Nodup → (∀ x ∈ l, x < m) → l.length ≤ m
  | 0, l, _, h => by
    cases l with
    | nil => simp
    | cons x l => have := h x (by simp); omega
  | m + 1, l, hn, h => by
    by_cases hm : m ∈ l
    · have h1 := pigeon m (l.erase m) (hn.erase m) (fun x hx => by
        have h2 := h x (List.mem_of_mem_erase hx)
        have h3 : x ≠ m := fun e => by
          subst e
          exact (List.Nodup.mem_erase_iff hn).1 hx |>.1 rfl
        omega)
      have := List.length_erase_of_mem hm
      have : 0 < l.length := List.length_pos_of_mem hm
      omega
    · have := pigeon m l hn (fun x hx => by
        have h2 := h x hx
        have h3 : x ≠ m := fun e => hm (e ▸ hx)
        omega)
      omega

def eqPl (a b : Pl) : Bool := decide (a.x = b.x) && decide (a.y = b.y)
theorem eqPl_iff {a b : Pl} : eqPl a b = true ↔ a = b := by
  cases a; cases b
  simp [eqPl]
def dX (d : Int) : Int := if d = 0 ∨ d = 1 ∨ d = 7 then 1 else if d = 2 ∨ d = 6 then 0 else -1
def dY (d : Int) : Int := if d = 1 ∨ d = 2 ∨ d = 3 then 1 else if d = 0 ∨ d = 4 then 0 else -1
theorem dX_bd {d : Int} : -1 ≤ dX d ∧ dX d ≤ 1 := by unfold dX; split <;> (try split) <;> omega
theorem dY_bd {d : Int} : -1 ≤ dY d ∧ dY d ≤ 1 := by unfold dY; split <;> (try split) <;> omega
theorem eight {d : Int} (h : 0 ≤ d ∧ d ≤ 7) : d = 0 ∨ d = 1 ∨ d = 2 ∨ d = 3 ∨ d = 4 ∨ d = 5 ∨ d = 6 ∨ d = 7 := by omega
theorem rd_tabS {d : Int} (h : 0 ≤ d ∧ d ≤ 7) : rd (some 2) tabS (d.toNat * 2) = some (.agg [.int .i64 (dX d), .int .i64 (dY d)]) := by
  rcases eight h with rfl | rfl | rfl | rfl | rfl | rfl | rfl | rfl <;> rfl
theorem rd_X {d : Int} (h : 0 ≤ d ∧ d ≤ 7) : rd none [V.int .i64 1, .int .i64 1, .int .i64 0, .int .i64 (-1), .int .i64 (-1), .int .i64 (-1), .int .i64 0, .int .i64 1] d.toNat = some (.int .i64 (dX d)) := by
  rcases eight h with rfl | rfl | rfl | rfl | rfl | rfl | rfl | rfl <;> rfl
theorem rd_Y {d : Int} (h : 0 ≤ d ∧ d ≤ 7) : rd none [V.int .i64 0, .int .i64 1, .int .i64 1, .int .i64 1, .int .i64 0, .int .i64 (-1), .int .i64 (-1), .int .i64 (-1)] d.toNat = some (.int .i64 (dY d)) := by
  rcases eight h with rfl | rfl | rfl | rfl | rfl | rfl | rfl | rfl <;> rfl
/-- the next place -/
def nxt (w : Nat) (D : List Int) (a : Pl) : Pl := ⟨a.x + dX (D.getD (a.y * w + a.x).toNat 0), a.y + dY (D.getD (a.y * w + a.x).toNat 0)⟩
def pos (w : Nat) (D : List Int) (s : Pl) : Nat → Pl
  | 0 => s
  | n + 1 => nxt w D (pos w D s n)
theorem pos_add {w : Nat} {D : List Int} {s : Pl} {k : Nat} : ∀ n, pos w D (pos w D s k) n = pos w D s (k + n)
  | 0 => rfl
  | n + 1 => by simp only [pos, pos_add n]; rfl
/-- one of the places before -/
def seenB (p : Nat → Pl) (i : Nat) : Bool := !allN (fun j => !eqPl (p j) (p i)) i
theorem seenB_at {p : Nat → Pl} {i j : Nat} (hj : j < i) (h : p j = p i) : seenB p i = true := by
  unfold seenB
  rw [allN_not (f := fun j => !eqPl (p j) (p i)) hj (by simp [eqPl_iff.2 h])]
  rfl
theorem seenB_not {p : Nat → Pl} {i : Nat} (h : seenB p i = false) {j : Nat} (hj : j < i) : p j ≠ p i := by
  intro e
  rw [seenB_at hj e] at h; cases h
theorem allN_ex {f : Nat → Bool} : ∀ {n : Nat}, allN f n = false → ∃ i, i < n ∧ f i = false
  | 0, h => by simp [allN] at h
  | n + 1, h => by
    simp only [allN, Bool.and_eq_false_iff] at h
    rcases h with h | h
    · obtain ⟨i, hi, e⟩ := allN_ex h
      exact ⟨i, by omega, e⟩
    · exact ⟨n, by omega, h⟩
theorem seenB_ex {p : Nat → Pl} {i : Nat} (h : seenB p i = true) : ∃ j, j < i ∧ p j = p i := by
  unfold seenB at h
  obtain ⟨j, hj, e⟩ := allN_ex (f := fun j => !eqPl (p j) (p i)) (by simpa using h)
  exact ⟨j, hj, eqPl_iff.1 (by simpa using e)⟩
/-- here the hair ends, or comes again -/
def stpB (w q : Nat) (p : Nat → Pl) (i : Nat) : Bool := !inPl w q (p i) || seenB p i
def ends (w q : Nat) (p : Nat → Pl) : Nat := frs (stpB w q p) (w * q)
theorem in_idx {w q : Nat} {a : Pl} (h : inPl w q a = true) : 0 ≤ a.y * w + a.x ∧ a.y * (w : Int) + a.x < (w : Int) * q := by
  simp only [inPl, decide_eq_true_eq] at h
  have h1 : 0 ≤ a.y * (w : Int) := Int.mul_nonneg (by omega) (by omega)
  have h2 : (a.y + 1) * (w : Int) ≤ (q : Int) * w := Int.mul_le_mul_of_nonneg_right (by omega) (by omega)
  rw [Int.add_mul, Int.one_mul, Int.mul_comm (q : Int)] at h2
  omega
theorem idx_inj {w q : Nat} {a b : Pl} (ha : inPl w q a = true) (hb : inPl w q b = true) (h : (a.y * w + a.x).toNat = (b.y * w + b.x).toNat) : a = b := by
  have h1 := in_idx ha
  have h2 := in_idx hb
  simp only [inPl, decide_eq_true_eq] at ha hb
  have e : a.y * (w : Int) + a.x = b.y * w + b.x := by omega
  have hy : a.y = b.y := by
    rcases Int.lt_trichotomy a.y b.y with hlt | heq | hlt
    · have : (a.y + 1) * (w : Int) ≤ b.y * w := Int.mul_le_mul_of_nonneg_right (by omega) (by omega)
      rw [Int.add_mul, Int.one_mul] at this
      omega
    · exact heq
    · have : (b.y + 1) * (w : Int) ≤ a.y * w := Int.mul_le_mul_of_nonneg_right (by omega) (by omega)
      rw [Int.add_mul, Int.one_mul] at this
      omega
  rw [hy] at e
  have hx : a.x = b.x := by omega
  cases a; cases b
  simp only at hx hy
  rw [hx, hy]
/-- it ends -/
theorem stops {w q : Nat} {p : Nat → Pl} : ∃ i, i ≤ w * q ∧ stpB w q p i = true := by
  apply Classical.byContradiction
  intro hno
  have hf : ∀ i, i ≤ w * q → stpB w q p i = false := fun i hi => by
    cases h : stpB w q p i with
    | false => rfl
    | true => exact absurd ⟨i, hi, h⟩ hno
  have hin : ∀ i, i ≤ w * q → inPl w q (p i) = true := fun i hi => by
    have := hf i hi
    simp only [stpB, Bool.or_eq_false_iff, Bool.not_eq_false'] at this
    exact this.1
  have hse : ∀ i, i ≤ w * q → seenB p i = false := fun i hi => by
    have := hf i hi
    simp only [stpB, Bool.or_eq_false_iff] at this
    exact this.2
  have hn : ((List.range (w * q + 1)).map fun i => ((p i).y * w + (p i).x).toNat).Nodup := by
    rw [List.nodup_iff_pairwise_ne, List.pairwise_map]
    refine List.Pairwise.imp_of_mem ?_ (List.pairwise_lt_range (n := w * q + 1))
    intro i j hi hj hij e
    have hi := List.mem_range.1 hi
    have hj := List.mem_range.1 hj
    exact seenB_not (hse j (by omega)) hij (idx_inj (hin i (by omega)) (hin j (by omega)) e)
  have := pigeon (w * q) _ hn (fun x hx => by
    obtain ⟨i, hi, rfl⟩ := List.mem_map.1 hx
    have hi := List.mem_range.1 hi
    have := in_idx (hin i (by omega))
    have e : ((w * q : Nat) : Int) = (w : Int) * q := by simp
    omega)
  simp only [List.length_map, List.length_range] at this
  omega
theorem ends_spec {w q : Nat} {p : Nat → Pl} : stpB w q p (ends w q p) = true ∧ (∀ i, i < ends w q p → stpB w q p i = false) ∧ ends w q p ≤ w * q := by
  obtain ⟨i, hi, h⟩ := stops (w := w) (q := q) (p := p)
  obtain ⟨a, b, _⟩ := frs_spec (f := stpB w q p) (w * q)
  exact ⟨frs_true hi h, a, b⟩
theorem ends_le {w q : Nat} {p : Nat → Pl} {i : Nat} (hi : i ≤ w * q) (h : stpB w q p i = true) : ends w q p ≤ i := frs_le hi h
theorem ends_eq {w q : Nat} {p : Nat → Pl} {i : Nat} (h : stpB w q p i = true) (hb : ∀ j, j < i → stpB w q p j = false) : ends w q p = i := by
  obtain ⟨a, b, c⟩ := ends_spec (w := w) (q := q) (p := p)
  rcases Nat.lt_trichotomy (ends w q p) i with hl | he | hl
  · rw [hb _ hl] at a; cases a
  · exact he
  · rw [b _ hl] at h; cases h
def plL (p : Nat → Pl) (n : Nat) : List Pl := (List.range n).map p
theorem plL_len {p : Nat → Pl} {n : Nat} : (plL p n).length = n := by simp [plL]
theorem plL_at {p : Nat → Pl} {n i : Nat} (h : i < n) : (plL p n).getD i default = p i := by simp [plL, List.getD_eq_getElem?_getD, h]
theorem plL_succ {p : Nat → Pl} {n : Nat} : plL p (n + 1) = plL p n ++ [p n] := by simp [plL, List.range_succ]
/-- what combing answers: the path, whether it circles, the error -/
def cbP (W Q : Int) (D : List Int) (P : List Ed) (s : Pl) : List Pl × Bool × Int :=
  if validP W Q D P = 0 then
    if inPl W Q s = true then
      (plL (pos W.toNat D s) (ends W.toNat Q.toNat (pos W.toNat D s)), inPl W Q (pos W.toNat D s (ends W.toNat Q.toNat (pos W.toNat D s))), 0)
    else ([], false, 5)
  else ([], false, validP W Q D P)
/-- once it comes again it never leaves -/
theorem pos_in {w q : Nat} {D : List Int} {s : Pl} {N j : Nat} (hj : j < N) (e : pos w D s j = pos w D s N) (hb : ∀ i, i < N → inPl w q (pos w D s i) = true) : ∀ n, inPl w q (pos w D s n) = true := by
  intro n
  induction n using Nat.strongRecOn with
  | _ n ih =>
    by_cases h : n < N
    · exact hb n h
    · have e2 : pos w D s n = pos w D s (j + (n - N)) := by
        have h1 := pos_add (w := w) (D := D) (s := s) (k := N) (n - N)
        have h2 := pos_add (w := w) (D := D) (s := s) (k := j) (n - N)
        have h3 : N + (n - N) = n := by omega
        rw [h3] at h1
        rw [← h1, ← h2, e]
      rw [e2]
      exact ih _ (by omega)
/-- combing on from a later place -/
theorem comb_on {w q : Nat} {D : List Int} {s : Pl} {k : Nat} (hk : k < ends w q (pos w D s)) :
    ends w q (pos w D s) - k ≤ ends w q (pos w D (pos w D s k)) ∧ inPl w q (pos w D (pos w D s k) (ends w q (pos w D (pos w D s k)))) = inPl w q (pos w D s (ends w q (pos w D s))) ∧
    (inPl w q (pos w D s (ends w q (pos w D s))) = false → ends w q (pos w D (pos w D s k)) = ends w q (pos w D s) - k) := by
  obtain ⟨a, b, c⟩ := ends_spec (w := w) (q := q) (p := pos w D s)
  obtain ⟨a', b', c'⟩ := ends_spec (w := w) (q := q) (p := pos w D (pos w D s k))
  generalize hN : ends w q (pos w D s) = N at *
  generalize hM : ends w q (pos w D (pos w D s k)) = M at *
  have hin : ∀ i, i < N → inPl w q (pos w D s i) = true := fun i hi => by
    have := b i hi
    simp only [stpB, Bool.or_eq_false_iff, Bool.not_eq_false'] at this
    exact this.1
  have hse : ∀ i, i < N → seenB (pos w D s) i = false := fun i hi => by
    have := b i hi
    simp only [stpB, Bool.or_eq_false_iff] at this
    exact this.2
  have hle : N - k ≤ M := by
    apply Classical.byContradiction
    intro h
    have h : M < N - k := by omega
    have a' := a'
    simp only [stpB, Bool.or_eq_true, Bool.not_eq_true'] at a'
    rw [pos_add] at a'
    rcases a' with a' | a'
    · rw [hin _ (by omega)] at a'; cases a'
    · obtain ⟨j, hj, e⟩ := seenB_ex a'
      rw [pos_add, pos_add] at e
      exact seenB_not (hse (k + M) (by omega)) (by omega) e
  refine ⟨hle, ?_, fun hout => ?_⟩
  · rw [pos_add]
    cases hc : inPl w q (pos w D s N) with
    | false =>
      have : M = N - k := by
        have : stpB w q (pos w D (pos w D s k)) (N - k) = true := by
          have e : k + (N - k) = N := by omega
          simp only [stpB, pos_add, e, hc]; rfl
        rcases Nat.lt_trichotomy M (N - k) with h | h | h
        · omega
        · exact h
        · rw [b' _ h] at this; cases this
      rw [this]
      have e : k + (N - k) = N := by omega
      rw [e, hc]
    | true =>
      simp only [stpB, hc, Bool.not_true, Bool.false_or] at a
      obtain ⟨j, hj, e⟩ := seenB_ex a
      exact pos_in hj e hin _
  · have : stpB w q (pos w D (pos w D s k)) (N - k) = true := by
      have e : k + (N - k) = N := by omega
      simp only [stpB, pos_add, e, hout]; rfl
    rcases Nat.lt_trichotomy M (N - k) with h | h | h
    · omega
    · exact h
    · rw [b' _ h] at this; cases this
end Go.Proofs.YtjchpgkibhdoiaaDoor.Vm
