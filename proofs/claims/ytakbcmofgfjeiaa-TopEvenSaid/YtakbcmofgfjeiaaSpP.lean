/- Rows that are spread, pure: taking what is due first keeps all times. -/
import Derived.Test.YtakbcmofgfjeiaaSuP
namespace Go.Proofs.Ytakbcmofgfjeiaa.Vm
open Go
set_option maxRecDepth 100000
set_option linter.unusedSimpArgs false
set_option linter.unusedVariables false
attribute [-simp] List.getD_eq_getElem?_getD
/-- a row made by taking, of what may come, what is due first -/
structure EdfR (w : Nat → Int) (m n : Nat) (cn : Nat → Nat → Int) (pick : Nat → Nat) : Prop where
  pos : 0 < su w m
  wnn : ∀ c, c < m → 0 ≤ w c
  zero : ∀ c, cn 0 c = 0
  step : ∀ k, k < n → ∀ c, cn (k + 1) c = cn k c + if c = pick k then 1 else 0
  col : ∀ k, k < n → pick k < m
  may : ∀ k, k < n → cn k (pick k) * su w m < ((k : Int) + 1) * w (pick k)
  due : ∀ k, k < n → ∀ c, c < m → cn k c * su w m < ((k : Int) + 1) * w c → (cn k (pick k) + 1) * w c ≤ (cn k c + 1) * w (pick k)
section
variable {w : Nat → Int} {m n : Nat} {cn : Nat → Nat → Int} {pick : Nat → Nat}
theorem EdfR.nn (h : EdfR w m n cn pick) : ∀ {k : Nat}, k ≤ n → ∀ c, 0 ≤ cn k c
  | 0, _, c => by rw [h.zero]; exact Int.le_refl _
  | k + 1, hk, c => by
    have := h.nn (k := k) (by omega) c
    rw [h.step k (by omega) c]; split <;> omega
theorem EdfR.mono (h : EdfR w m n cn pick) {t : Nat} : ∀ {k : Nat}, t ≤ k → k ≤ n → ∀ c, cn t c ≤ cn k c
  | 0, h1, _, c => by have : t = 0 := by omega
                      subst this; exact Int.le_refl _
  | k + 1, h1, h2, c => by
    by_cases e : t = k + 1
    · subst e; exact Int.le_refl _
    · have := h.mono (t := t) (k := k) (by omega) (by omega) c
      rw [h.step k (by omega) c]; split <;> omega
theorem su_ind {j m : Nat} (hj : j < m) : su (fun c => if c = j then 1 else 0) m = 1 := by
  have := su_upd (f := fun _ => 0) (k := j) (x := 1) (n := m)
  rw [this, if_pos hj, su_zero fun _ _ => rfl]; omega
theorem EdfR.sum (h : EdfR w m n cn pick) : ∀ {k : Nat}, k ≤ n → su (cn k) m = k
  | 0, _ => su_zero fun c _ => h.zero c
  | k + 1, hk => by
    rw [su_congr fun c _ => h.step k (by omega) c, su_add, h.sum (k := k) (by omega), su_ind (h.col k (by omega))]; rfl
theorem su_mul {f : Nat → Int} {x : Int} : ∀ {n : Nat}, su (fun i => x * f i) n = x * su f n
  | 0 => by simp [su]
  | n + 1 => by simp only [su, su_mul (n := n), Int.mul_add]
theorem EdfR.high (h : EdfR w m n cn pick) : ∀ {k : Nat}, k ≤ n → ∀ c, c < m → cn k c * su w m < (k : Int) * w c + su w m
  | 0, _, c, hc => by rw [h.zero]; have := h.pos; simp; exact this
  | k + 1, hk, c, hc => by
    have ih := h.high (k := k) (by omega) c hc
    have hw := h.wnn c hc
    rw [h.step k (by omega) c]
    have e : ((k + 1 : Nat) : Int) * w c = (k : Int) * w c + w c := by rw [Int.natCast_add, Int.add_mul]; simp
    by_cases ep : c = pick k
    · rw [if_pos ep, Int.add_mul]
      have := h.may k (by omega)
      rw [← ep, Int.add_mul] at this
      omega
    · rw [if_neg ep, Int.add_zero]; omega
/-- the one picked at a step is due later than k -/
def lateB (w : Nat → Int) (m : Nat) (cn : Nat → Nat → Int) (pick : Nat → Nat) (k : Nat) (s : Nat) : Prop := (k : Int) * w (pick s) < (cn s (pick s) + 1) * su w m
theorem last_late (P : Nat → Prop) : ∀ k : Nat, ∃ t, t ≤ k ∧ (t = 0 ∨ P (t - 1)) ∧ ∀ s, t ≤ s → s < k → ¬ P s
  | 0 => ⟨0, Nat.le_refl _, Or.inl rfl, fun s h1 h2 => by omega⟩
  | k + 1 => by
    obtain ⟨t, h1, h2, h3⟩ := last_late P k
    by_cases e : P k
    · exact ⟨k + 1, Nat.le_refl _, Or.inr e, fun s a b => by omega⟩
    · exact ⟨t, by omega, h2, fun s a b => by
        by_cases es : s = k
        · subst es; exact e
        · exact h3 s a (by omega)⟩
theorem EdfR.early (h : EdfR w m n cn pick) {t k : Nat} (hk : k ≤ n) (hl : ∀ s, t ≤ s → s < k → ¬ lateB w m cn pick k s) {c : Nat} : ∀ {j : Nat}, t ≤ j → j ≤ k → cn j c = cn t c ∨ cn j c * su w m ≤ (k : Int) * w c
  | 0, h1, _ => by have : t = 0 := by omega
                   subst this; exact Or.inl rfl
  | j + 1, h1, h2 => by
    by_cases e : t = j + 1
    · subst e; exact Or.inl rfl
    · have ih := h.early hk hl (c := c) (j := j) (by omega) (by omega)
      rw [h.step j (by omega) c]
      by_cases ep : c = pick j
      · right
        rw [if_pos ep]
        have := hl j (by omega) (by omega)
        unfold lateB at this
        rw [← ep] at this
        omega
      · rw [if_neg ep, Int.add_zero]; exact ih
theorem mul_lt_of {a b x y : Int} (h : a * x ≤ b * y) (hx : 0 < x) : True := trivial
theorem EdfR.early2 (h : EdfR w m n cn pick) {t k : Nat} (hk : k ≤ n) (ht : t ≤ k) (hp : t = 0 ∨ lateB w m cn pick k (t - 1)) {c : Nat} (hc : c < m) (hd : (cn t c + 1) * su w m ≤ (k : Int) * w c) : (t : Int) * w c ≤ cn t c * su w m := by
  have hpos := h.pos
  by_cases t0 : t = 0
  · subst t0; rw [h.zero]; simp
  obtain ⟨s, rfl⟩ : ∃ s, t = s + 1 := ⟨t - 1, by omega⟩
  have hl : lateB w m cn pick k s := by
    rcases hp with e | e
    · exact absurd e t0
    · simpa using e
  have hns := h.nn (k := s) (by omega) c
  have hst := h.step s (by omega) c
  have hmon : cn s c ≤ cn (s + 1) c := by rw [hst]; split <;> omega
  have hd2 : (cn s c + 1) * su w m ≤ (k : Int) * w c := by
    have : (cn s c + 1) * su w m ≤ (cn (s + 1) c + 1) * su w m := Int.mul_le_mul_of_nonneg_right (by omega) (by omega)
    omega
  have hne : c ≠ pick s := fun e => by
    unfold lateB at hl
    rw [← e] at hl
    omega
  have hna : ¬ cn s c * su w m < ((s : Int) + 1) * w c := fun ha => by
    have hdue := h.due s (by omega) c hc ha
    unfold lateB at hl
    have hm := h.may s (by omega)
    have hwp := h.wnn (pick s) (h.col s (by omega))
    have hwc := h.wnn c hc
    have hnp := h.nn (k := s) (by omega) (pick s)
    -- k w_p w_c < (cn p + 1) W w_c ≤ (cn c + 1) w_p W ≤ k w_c w_p
    have wp : 0 < w (pick s) := by
      apply Classical.byContradiction
      intro hn
      have e0 : w (pick s) = 0 := by omega
      rw [e0, Int.mul_zero] at hm
      have : 0 ≤ cn s (pick s) * su w m := Int.mul_nonneg hnp (by omega)
      omega
    have wc : 0 < w c := by
      apply Classical.byContradiction
      intro hn
      have e0 : w c = 0 := by omega
      rw [e0, Int.mul_zero] at ha
      have : 0 ≤ cn s c * su w m := Int.mul_nonneg hns (by omega)
      omega
    have a1 : (k : Int) * w (pick s) * w c < (cn s (pick s) + 1) * su w m * w c := Int.mul_lt_mul_of_pos_right hl wc
    have a2 : (cn s (pick s) + 1) * w c * su w m ≤ (cn s c + 1) * w (pick s) * su w m := Int.mul_le_mul_of_nonneg_right hdue (by omega)
    have a3 : (cn s c + 1) * su w m * w (pick s) ≤ (k : Int) * w c * w (pick s) := Int.mul_le_mul_of_nonneg_right hd2 hwp
    have e1 : (cn s (pick s) + 1) * su w m * w c = (cn s (pick s) + 1) * w c * su w m := Int.mul_right_comm _ _ _
    have e2 : (cn s c + 1) * w (pick s) * su w m = (cn s c + 1) * su w m * w (pick s) := Int.mul_right_comm _ _ _
    have e3 : (k : Int) * w c * w (pick s) = (k : Int) * w (pick s) * w c := Int.mul_right_comm _ _ _
    omega
  rw [hst, if_neg hne, Int.add_zero]
  have : ((s + 1 : Nat) : Int) = (s : Int) + 1 := by omega
  rw [this]; omega
theorem EdfR.low (h : EdfR w m n cn pick) {k : Nat} (hk : k ≤ n) {c0 : Nat} (hc0 : c0 < m) : (k : Int) * w c0 < (cn k c0 + 1) * su w m := by
  apply Classical.byContradiction
  intro hn
  have hn : (cn k c0 + 1) * su w m ≤ (k : Int) * w c0 := by omega
  have hpos := h.pos
  obtain ⟨t, ht, hp, hl⟩ := last_late (lateB w m cn pick k) k
  have bnd : ∀ c, c < m → (cn k c - cn t c) * su w m ≤ ((k : Int) - t) * w c := fun c hc => by
    have hw := h.wnn c hc
    rcases h.early hk hl (c := c) ht (Nat.le_refl k) with e | e
    · rw [e, Int.sub_self, Int.zero_mul]
      exact Int.mul_nonneg (by omega) hw
    · by_cases e2 : cn k c = cn t c
      · rw [e2, Int.sub_self, Int.zero_mul]
        exact Int.mul_nonneg (by omega) hw
      · have hm := h.mono ht hk c
        have hd : (cn t c + 1) * su w m ≤ (k : Int) * w c := by
          have : (cn t c + 1) * su w m ≤ cn k c * su w m := Int.mul_le_mul_of_nonneg_right (by omega) (by omega)
          omega
        have := h.early2 hk ht hp hc hd
        rw [Int.sub_mul, Int.sub_mul]; omega
  have bnd0 : (cn k c0 - cn t c0 + 1) * su w m ≤ ((k : Int) - t) * w c0 := by
    have hm := h.mono ht hk c0
    have hd : (cn t c0 + 1) * su w m ≤ (k : Int) * w c0 := by
      have : (cn t c0 + 1) * su w m ≤ (cn k c0 + 1) * su w m := Int.mul_le_mul_of_nonneg_right (by omega) (by omega)
      omega
    have := h.early2 hk ht hp hc0 hd
    rw [Int.add_mul] at hn
    rw [Int.add_mul, Int.sub_mul, Int.sub_mul]; omega
  -- the sum of all
  have h1 : su (fun c => (cn k c - cn t c) * su w m + if c = c0 then su w m else 0) m ≤ su (fun c => ((k : Int) - t) * w c) m := su_le fun c hc => by
    by_cases e : c = c0
    · subst e
      rw [if_pos rfl]
      rw [Int.add_mul] at bnd0; omega
    · rw [if_neg e]; have := bnd c hc; omega
  rw [su_mul, su_add] at h1
  have h2 : su (fun c => if c = c0 then su w m else 0) m = su w m := by
    have := su_upd (f := fun _ => 0) (k := c0) (x := su w m) (n := m)
    rw [this, if_pos hc0, su_zero fun _ _ => rfl]; omega
  have h3 : su (fun c => (cn k c - cn t c) * su w m) m = ((k : Int) - t) * su w m := by
    have e : su (fun c => (cn k c - cn t c) * su w m) m = su (fun c => su w m * (cn k c + (-1) * cn t c)) m := su_congr fun c _ => by
      rw [Int.mul_comm]; congr 1; omega
    rw [e, su_mul, su_add, su_mul, h.sum hk, h.sum (k := t) (by omega), Int.mul_comm]
    congr 1; omega
  omega
/-- something may come at each step -/
theorem some_may (hpos : 0 < su w m) {f : Nat → Int} {k : Nat} (hf : su f m = k) : ∃ c, c < m ∧ f c * su w m < ((k : Int) + 1) * w c := by
  apply Classical.byContradiction
  intro hn
  have h1 : su (fun c => ((k : Int) + 1) * w c) m ≤ su (fun c => su w m * f c) m := su_le fun c hc => by
    apply Classical.byContradiction
    intro hx
    exact hn ⟨c, hc, by rw [Int.mul_comm (f c)]; omega⟩
  rw [su_mul, su_mul, hf, Int.add_mul, Int.mul_comm (su w m)] at h1
  omega
end
end Go.Proofs.Ytakbcmofgfjeiaa.Vm
