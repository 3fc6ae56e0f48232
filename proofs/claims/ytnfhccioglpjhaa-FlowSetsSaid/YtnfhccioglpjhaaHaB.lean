/- The reference of hair over the machine. -/
import Derived.Test.YtnfhccioglpjhaaHaA
namespace Go.Proofs.Ytnfhccioglpjhaa.Vm
open Go
set_option maxRecDepth 100000
set_option linter.unusedSimpArgs false
attribute [-simp] List.getD_eq_getElem?_getD

theorem pad_getD {l : List Int} (i : Nat) : (pad l).getD i 0 = l.getD i 0 := by
  unfold pad
  by_cases h : i < l.length
  · simp only [List.getD_eq_getElem?_getD, List.getElem?_append_left h]
  · rw [getD_big (l := l) (by omega)]
    simp only [List.getD_eq_getElem?_getD, List.getElem?_append_right (Nat.le_of_not_lt h), List.getElem?_replicate]
    split <;> rfl
theorem sheafOf_right {r w : List Int} (h : r.length ≤ 24) {i : Nat} (hi : i < 24) : (sheafOf r w).getD i 0 = r.getD i 0 := by
  have hl := pad_length h
  rw [← pad_getD (l := r) i]
  simp only [sheafOf, List.getD_eq_getElem?_getD]
  rw [List.getElem?_append_left (by omega)]
theorem sheafOf_wrong {r w : List Int} (h : r.length ≤ 24) (i : Nat) : (sheafOf r w).getD (24 + i) 0 = w.getD i 0 := by
  have hl := pad_length h
  rw [← pad_getD (l := w) i]
  simp only [sheafOf, List.getD_eq_getElem?_getD]
  rw [List.getElem?_append_right (by omega), hl, Nat.add_sub_cancel_left]

/-- the reference's array against the sheaf -/
structure RefOf (xs ys : List Int) : Prop where
  len : ys.length = 50
  right : ∀ i, i < 24 → ys.getD (i + 1) 0 = xs.getD i 0
  wrong : ∀ i, i < 24 → ys.getD (26 + i) 0 = xs.getD (24 + i) 0
  zero : ys.getD 0 0 = 0 ∧ ys.getD 25 0 = 0

/-- one length's two numbers in the reference's array -/
theorem RefOf.at {xs ys : List Int} (h : RefOf xs ys) {m : Nat} (h1 : 1 ≤ m) (h2 : m ≤ 24) : ys.getD m 0 = xs.getD (m - 1) 0 ∧ ys.getD (25 + m) 0 = xs.getD (24 + (m - 1)) 0 := by
  obtain ⟨i, rfl⟩ : ∃ i, m = i + 1 := ⟨m - 1, by omega⟩
  refine ⟨h.right i (by omega), ?_⟩
  rw [show 25 + (i + 1) = 26 + i by omega]
  exact h.wrong i (by omega)

theorem restN_zs (n k : Nat) : restN (zs n) k = 0 := by
  induction k with
  | zero => rfl
  | succ k ih => simp only [restN, zs_getD, ih]; rfl
theorem inRest_zs (n k : Nat) : inRest (zs n) k = 0 := by
  induction k with
  | zero => rfl
  | succ k ih => simp only [inRest, zs_getD, ih]; simp
theorem opened_err {r w : List Int} (h : errOf r w ≠ 0) : opened r w = zs 48 := by simp [opened, h]
theorem opened_ok {r w : List Int} (h : errOf r w = 0) : opened r w = sheafOf r w := by simp [opened, h]

section
variable {lim : Nat} {H : Hp} {bv : V} {r w : List Int} {K : V → Hp → Prop}
end

/-! the law's own pieces -/
section
variable {lim : Nat} {H : Hp} {bv : V} {r w : List Int} {K : V → Hp → Prop}
end

theorem ref01_SameInts {lim : Nat} {H : Hp} {av bv : V} {a b : List Int} (ha : SlV H av a) (hb : SlV H bv b) (hlen : a.length ≤ 4611686018427387904) {K : V → Hp → Prop} (hK : K (.bool (decide (a = b))) H) : VCall tbl lim 31 [av, bv] H K := by
  refine VCall_fn tbl_at31 rfl ?_
  simp [vf31, ha.len, hb.len]
  by_cases hl : a.length = b.length
  · have hl' : (a.length : Int) = b.length := by omega
    simp [hl']
    refine wLoop_inv (fun k s => ∃ i : Nat, s.fr 0 = av ∧ s.fr 1 = bv ∧ s.fr 5 = .int .i64 i ∧ s.L = [] ∧ s.H = H ∧ i ≤ a.length ∧ k = a.length - i ∧ a.take i = b.take i) ?_ (n := a.length) ?_
    case refine_2 => exact ⟨0, by simp, by simp, by simp, rfl, rfl, by omega, by omega, by simp⟩
    rintro k ⟨fr, L, H'⟩ ⟨i, h0, h1, h5, rfl, rfl, hi, hk, heq⟩
    simp only at h0 h1 h5
    simp [h0, h1, h5, ha.len]
    refine cond_bool (fun ht => ?_) fun hf => ?_
    · have ht : i < a.length := by simpa using ht
      obtain ⟨b1, o1, e1, e2⟩ := ha.at ht
      obtain ⟨b2, o2, e3, e4⟩ := hb.at (show i < b.length by omega)
      simp [h0, h1, h5, e1, e2, e3, e4]
      refine cond_bool (fun hn => ?_) fun hn => ?_
      · have hn : ¬ a.getD i 0 = b.getD i 0 := by simpa using hn
        simp
        have : a ≠ b := fun e => hn (by rw [e])
        simpa [this] using hK
      · have hn : a.getD i 0 = b.getD i 0 := by simpa using hn
        simp [h0, h1, h5]
        rw [wrap_i64 (by omega) (by omega)]
        refine ⟨a.length - (i + 1), by omega, i + 1, by omega, by omega, rfl, ?_⟩
        rw [take_snoc ht, take_snoc (show i < b.length by omega), heq, hn]
    · have hf : ¬ i < a.length := by simpa using hf
      have hil : i = a.length := by omega
      subst hil
      rw [List.take_length, hl, List.take_length] at heq
      subst heq
      simp
      simpa using hK
  · have hl' : ¬ (a.length : Int) = b.length := by omega
    simp [hl']
    have : a ≠ b := fun e => hl (by rw [e])
    simpa [this] using hK

end Go.Proofs.Ytnfhccioglpjhaa.Vm
