/- Laws of hair over the machine: comparing, drawing in two steps. -/
import Derived.Test.YtgmbjfdhbfhmgaaHaL
namespace Go.Proofs.Ytgmbjfdhbfhmgaa.Vm
open Go
set_option maxRecDepth 100000
set_option linter.unusedSimpArgs false
set_option linter.unusedVariables false
attribute [-simp] List.getD_eq_getElem?_getD

def mnum (f : HF) : Int := ((inF f).toNat / gcdI (inF f) (cntF f) : Nat)
def mden (f : HF) : Int := ((cntF f).toNat / gcdI (inF f) (cntF f) : Nat)
theorem mean_parts {f : HF} (h1 : 0 ≤ inF f) (h2 : 0 < cntF f) : ∃ g : Int, 0 < g ∧ inF f = g * mnum f ∧ cntF f = g * mden f := by
  have hd : gcdI (inF f) (cntF f) ∣ (cntF f).toNat := Nat.gcd_dvd_right _ _
  have hn : gcdI (inF f) (cntF f) ∣ (inF f).toNat := Nat.gcd_dvd_left _ _
  have hp : 0 < gcdI (inF f) (cntF f) := Nat.gcd_pos_of_pos_right _ (by omega)
  refine ⟨(gcdI (inF f) (cntF f) : Nat), by omega, ?_, ?_⟩
  · have := Nat.mul_div_cancel' hn
    simp only [mnum]
    have e : ((gcdI (inF f) (cntF f) * ((inF f).toNat / gcdI (inF f) (cntF f)) : Nat) : Int) = (inF f).toNat := by rw [this]
    rw [Int.natCast_mul] at e; omega
  · have := Nat.mul_div_cancel' hd
    simp only [mden]
    have e : ((gcdI (inF f) (cntF f) * ((cntF f).toNat / gcdI (inF f) (cntF f)) : Nat) : Int) = (cntF f).toNat := by rw [this]
    rw [Int.natCast_mul] at e; omega
theorem mean_sign {f g : HF} (h1 : 0 ≤ inF f) (h2 : 0 < cntF f) (h3 : 0 ≤ inF g) (h4 : 0 < cntF g) :
    (inF g * cntF f < inF f * cntF g → mnum g * mden f < mnum f * mden g) ∧ (inF g * cntF f ≤ inF f * cntF g → mnum g * mden f ≤ mnum f * mden g) := by
  obtain ⟨a, ha, e1, e2⟩ := mean_parts h1 h2
  obtain ⟨b, hb, e3, e4⟩ := mean_parts h3 h4
  rw [e1, e2, e3, e4]
  have hab : 0 < a * b := Int.mul_pos ha hb
  have x1 : b * mnum g * (a * mden f) = a * b * (mnum g * mden f) := by
    rw [Int.mul_comm a b, Int.mul_assoc, Int.mul_assoc]; congr 1; rw [← Int.mul_assoc, ← Int.mul_assoc, Int.mul_comm (mnum g) a]
  have x2 : a * mnum f * (b * mden g) = a * b * (mnum f * mden g) := by
    rw [Int.mul_assoc, Int.mul_assoc]; congr 1; rw [← Int.mul_assoc, ← Int.mul_assoc, Int.mul_comm (mnum f) b]
  rw [x1, x2]
  exact ⟨fun h => Int.lt_of_mul_lt_mul_left h (by omega), fun h => Int.le_of_mul_le_mul_left h hab⟩
theorem mean_bd {f : HF} (hf : ∀ w n, 0 ≤ f w n ∧ f w n ≤ 1000000) : 0 ≤ mnum f ∧ mnum f ≤ 1152000000 ∧ 0 ≤ mden f ∧ mden f ≤ 48000000 := by
  have a := inF_bd hf
  have b := abv_bd6 hf 24
  have c : cntF f = abv f 24 := rfl
  have d1 := Nat.div_le_self (inF f).toNat (gcdI (inF f) (cntF f))
  have d2 := Nat.div_le_self (cntF f).toNat (gcdI (inF f) (cntF f))
  simp only [mnum, mden]
  generalize (inF f).toNat / gcdI (inF f) (cntF f) = p at *
  generalize (cntF f).toNat / gcdI (inF f) (cntF f) = q at *
  omega

section
variable {lim : Nat} {H : Hp} {av bv : V} {r w r' w' : List Int} {K : V → Hp → Prop}

theorem law_HairCompares (ha : BunV H r w av) (hb : BunV H r' w' bv) (hlim : lim ≤ H.length) (hK : ∀ H', K (.bool true) H') : VCall tbl lim 11 [av, bv] H K := by
  obtain ⟨hx, hy⟩ := ha
  rename_i rv wv
  have ha : BunV H r w (.agg [rv, wv]) := .mk hx hy
  obtain ⟨hz, hu⟩ := hb
  rename_i rv' wv'
  have hb : BunV H r' w' (.agg [rv', wv']) := .mk hz hu
  refine VCall_fn tbl_at11 rfl ?_
  simp [vf11, hx.stor, hy.stor, hx.one, hy.one, hz.stor, hu.stor, hz.one, hu.one]
  refine law_Long ha ?_
  by_cases hl1 : r.length ≤ 100 ∧ w.length ≤ 100
  case neg =>
    have : (decide (100 < r.length) || decide (100 < w.length)) = true := by simp; omega
    rw [this]
    simp; refine law_known hlim fun H1 _ => ?_; simp; exact hK H1
  have : (decide (100 < r.length) || decide (100 < w.length)) = false := by simp; omega
  rw [this]
  simp [hz.stor, hu.stor]
  refine law_Long hb ?_
  simp
  refine cond_bool (fun hl => ?_) fun hl => ?_
  · simp; refine law_known hlim fun H1 _ => ?_; simp; exact hK H1
  simp [hx.stor, hy.stor, hz.stor, hu.stor]
  refine hair_Compare ha hb hlim fun H1 x1 => ?_
  have l1 := x1.len
  simp [hx.stor, hy.stor, hz.stor, hu.stor]
  refine ref01_Compare (ha.mono x1) (hb.mono x1) (by omega) ?_
  simp
  refine cond_ndec (fun he => ?_) fun he => ?_
  · simp; refine law_known (by omega) fun H2 _ => ?_; simp; exact hK H2
  have hp : errOf r w = 0 ∧ errOf r' w' = 0 ∧ cntF (op r w) ≠ 0 ∧ cntF (op r' w') ≠ 0 := by
    unfold cmpP at he
    split at he
    · rename_i e
      split at he
      · simp at he
      · rename_i h1
        exact ⟨(er2_zero e).1, (er2_zero e).2, by omega, by omega⟩
    · rename_i e; exact absurd he e
  obtain ⟨e1, e2, c1, c2⟩ := hp
  have p1 : cmpP r w r' w' = (codeP (moreN (op r w) (op r' w') 24) (moreN (op r' w') (op r w) 24), 0) := by simp [cmpP, er2, e1, e2, c1, c2]
  have p2 : cmpP r' w' r w = (codeP (moreN (op r' w') (op r w) 24) (moreN (op r w) (op r' w') 24), 0) := by simp [cmpP, er2, e1, e2, c1, c2]
  have m1 : meanP r w = (mnum (op r w), mden (op r w), 0) := by simp [meanP, withE, e1, ratP, c1, mnum, mden]
  have m2 : meanP r' w' = (mnum (op r' w'), mden (op r' w'), 0) := by simp [meanP, withE, e2, ratP, c2, mnum, mden]
  have k1 := cntF_op2 (r := r) (w := w)
  have k2 := cntF_op2 (r := r') (w := w')
  have i1 := inF_bd (f := op r w) op_bd
  have i2 := inF_bd (f := op r' w') op_bd
  have s1 := mean_sign (f := op r w) (g := op r' w') i1.1 (by omega) i2.1 (by omega)
  have s2 := mean_sign (f := op r' w') (g := op r w) i2.1 (by omega) i1.1 (by omega)
  have cm1 := cmp_means (f := op r w) (g := op r' w')
  have cm2 := cmp_means (f := op r' w') (g := op r w)
  rw [← inF_sumA, ← inF_sumA] at cm1 cm2
  have d1 := mean_bd (f := op r w) op_bd
  have d2 := mean_bd (f := op r' w') op_bd
  rw [p1]
  generalize moreN (op r w) (op r' w') 24 = x at *
  generalize moreN (op r' w') (op r w) 24 = y at *
  generalize mnum (op r w) = A at *
  generalize mden (op r w) = B at *
  generalize mnum (op r' w') = C at *
  generalize mden (op r' w') = D at *
  have q1 := mul_bd (a := A) (b := D) (A := 1152000000) (B := 48000000) (by omega) (by omega)
  have q2 := mul_bd (a := C) (b := B) (A := 1152000000) (B := 48000000) (by omega) (by omega)
  have fin : ∀ (H2 H3 : Hp), lim ≤ H3.length → VCall tbl lim 18 [] H3 fun v H4 => v = .bool true := fun H2 H3 h => law_known h fun _ _ => rfl
  simp [hx.stor, hy.stor, hz.stor, hu.stor]
  refine hair_Compare (hb.mono x1) (ha.mono x1) (by omega) fun H2 x2 => ?_
  have l2 := x2.len
  rw [p2]
  simp [hx.stor, hy.stor]
  refine hair_Mean (ha.mono (x1.trans x2)) (by omega) fun H3 x3 => ?_
  have l3 := x3.len
  rw [m1]
  simp [hz.stor, hu.stor]
  refine hair_Mean (hb.mono ((x1.trans x2).trans x3)) (by omega) fun H4 x4 => ?_
  have l4 := x4.len
  rw [m2]
  have hlim4 : lim ≤ H4.length := by omega
  cases x <;> cases y
  · have h1 := s1.2 (cm1.1 rfl)
    have h2 := s2.2 (cm2.1 rfl)
    have h3 : A * D - C * B = 0 := by omega
    have h4 : A * D = C * B := by omega
    simp (disch := omega) [codeP, wrap_i64, h3, h4]
    refine law_known hlim4 fun H5 _ => ?_
    simp; exact hK H5
  · have h2 := s2.1 (cm2.2 rfl rfl)
    have h3 : A * D - C * B < 0 := by omega
    have h4 : A * D < C * B := by omega
    simp (disch := omega) [codeP, wrap_i64, h3, h4]
    refine law_known hlim4 fun H5 _ => ?_
    simp; exact hK H5
  · have h2 := s1.1 (cm1.2 rfl rfl)
    have h3 : 0 < A * D - C * B := by omega
    have h4 : C * B < A * D := by omega
    simp (disch := omega) [codeP, wrap_i64, h3, h4]
    refine law_known hlim4 fun H5 _ => ?_
    simp; exact hK H5
  · simp (disch := omega) [codeP, wrap_i64]
    refine law_known hlim4 fun H5 _ => ?_
    simp; exact hK H5
end

/-! drawing in two steps -/
theorem abv_drw {f : HF} (hf : ∀ w n, 0 ≤ f w n) {n : Int} (hn : 0 ≤ n) : ∀ k, k ≤ 24 → abv (drw f n) k = min n (abv f k)
  | 0, _ => by simp only [abv]; omega
  | k + 1, h => by
    have e : 24 - (24 - k) = k := by omega
    have a := hf 0 (24 - k)
    have b := hf 1 (24 - k)
    have c : 0 ≤ abv f k := by have := abv_mono hf (j := 0) (k := k) (by omega); simpa [abv] using this
    simp only [abv, abv_drw hf hn k (by omega), drw, e, if_true, if_neg (show ¬ (1 : Nat) = 0 by omega)]
    omega
theorem abv_sub {f g : HF} : ∀ k, abv (subF f g) k = abv f k - abv g k
  | 0 => rfl
  | k + 1 => by simp only [abv, abv_sub k, subF]; omega
theorem drw_congr {f g : HF} (h : ∀ w n, w < 2 → 1 ≤ n → n ≤ 24 → f w n = g w n) {m : Int} {w L : Nat} (hw : w < 2) (h1 : 1 ≤ L) (h2 : L ≤ 24) : drw f m w L = drw g m w L := by
  simp only [drw, abv_congr h (k := 24 - L) (by omega), h 0 L (by omega) h1 h2, h w L hw h1 h2]
theorem drw_two {f : HF} (hf : ∀ w n, 0 ≤ f w n) {n m : Int} (hn : 0 ≤ n) (hm : 0 ≤ m) {w L : Nat} (hw : w < 2) (h1 : 1 ≤ L) (h2 : L ≤ 24) : drw f n w L + drw (subF f (drw f n)) m w L = drw f (n + m) w L := by
  have hA : abv (subF f (drw f n)) (24 - L) = abv f (24 - L) - min n (abv f (24 - L)) := by rw [abv_sub, abv_drw hf hn _ (by omega)]
  have a := hf 0 L
  have b := hf 1 L
  have c : 0 ≤ abv f (24 - L) := by have := abv_mono hf (j := 0) (k := 24 - L) (by omega); simpa [abv] using this
  rcases (show w = 0 ∨ w = 1 by omega) with rfl | rfl
  · simp only [drw, hA, if_true, subF]; omega
  · simp only [drw, hA, if_true, subF, if_neg (show ¬ (1 : Nat) = 0 by omega)]; omega
end Go.Proofs.Ytgmbjfdhbfhmgaa.Vm
