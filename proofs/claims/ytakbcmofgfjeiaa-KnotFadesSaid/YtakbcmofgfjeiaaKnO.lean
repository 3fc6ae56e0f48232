/- Laws of knot over the machine: fades. -/
import Derived.Test.YtakbcmofgfjeiaaKnN
namespace Go.Proofs.Ytakbcmofgfjeiaa.Vm
open Go
set_option maxRecDepth 100000
set_option linter.unusedSimpArgs false
set_option linter.unusedVariables false
attribute [-simp] List.getD_eq_getElem?_getD

/-- a fade: two densities, how many rows -/
structure FD (a b c d n : Nat) : Prop where
  b1 : 1 ≤ b
  b2 : b ≤ 1000
  a1 : a ≤ 6 * b
  d1 : 1 ≤ d
  d2 : d ≤ 1000
  c1 : c ≤ 6 * d
  n1 : 1 ≤ n
  n2 : n ≤ 60
  g1 : Nat.gcd a b = 1
def fadB (a b c d n : Int) : Bool := dens a b && (dens c d && (decide (1 ≤ n) && decide (n ≤ 60)))
def stp (n : Nat) : Nat := max (n - 1) 1
def fnum (a b c d n i : Nat) : Nat := a * d * (stp n - i) + c * b * i
def fden (b d n : Nat) : Nat := b * d * stp n
def fgcd (a b c d n i : Nat) : Nat := Nat.gcd (fnum a b c d n i) (fden b d n)
def fP (a b c d n i : Nat) : Nat := fnum a b c d n i / fgcd a b c d n i
def fQ (a b c d n i : Nat) : Nat := fden b d n / fgcd a b c d n i
def frat (a b c d n i : Nat) : List V := [.int .i64 (fP a b c d n i : Nat), .int .i64 (fQ a b c d n i : Nat)]
def fadL (a b c d n m : Nat) : List (List V) := (List.range m).map (frat a b c d n)
theorem dens_of {n d : Int} (h : dens n d = true) : ∃ a b : Nat, n = a ∧ d = b ∧ 1 ≤ b ∧ b ≤ 1000 ∧ a ≤ 6 * b ∧ Nat.gcd a b = 1 := by
  have h1 : frac n d = true ∧ n ≤ 6 * d := by simpa [dens] using h
  have a := frac_bd h1.1
  have g : gcd1 n d = true := by have := h1.1; simp [frac] at this; exact this.2.2.2
  have g : Nat.gcd n.toNat d.toNat = 1 := by simpa [gcd1] using g
  exact ⟨n.toNat, d.toNat, by omega, by omega, by omega, by omega, by omega, g⟩
theorem FD.of {a b c d n : Int} (h : fadB a b c d n = true) : ∃ A B C D N : Nat, a = A ∧ b = B ∧ c = C ∧ d = D ∧ n = N ∧ FD A B C D N := by
  have h : dens a b = true ∧ dens c d = true ∧ 1 ≤ n ∧ n ≤ 60 := by simpa [fadB] using h
  obtain ⟨A, B, e1, e2, p1, p2, p3, p4⟩ := dens_of h.1
  obtain ⟨C, D, e3, e4, q1, q2, q3, _⟩ := dens_of h.2.1
  exact ⟨A, B, C, D, n.toNat, e1, e2, e3, e4, by omega, ⟨p1, p2, p3, q1, q2, q3, by omega, by omega, p4⟩⟩
theorem FD.bds {a b c d n i : Nat} (F : FD a b c d n) (hi : i < n) : a * d ≤ 6000000 ∧ c * b ≤ 6000000 ∧ b * d ≤ 1000000 ∧ 1 ≤ b * d ∧ stp n ≤ 60 ∧ 1 ≤ stp n ∧ i ≤ stp n ∧ a * d * (stp n - i) ≤ 360000000 ∧ c * b * i ≤ 360000000 ∧ fden b d n ≤ 60000000 ∧ 1 ≤ fden b d n := by
  have h1 : a * d ≤ 6000 * 1000 := Nat.mul_le_mul (by have := F.a1; have := F.b2; omega) F.d2
  have h2 : c * b ≤ 6000 * 1000 := Nat.mul_le_mul (by have := F.c1; have := F.d2; omega) F.b2
  have h3 : b * d ≤ 1000 * 1000 := Nat.mul_le_mul F.b2 F.d2
  have h4 : 1 * 1 ≤ b * d := Nat.mul_le_mul F.b1 F.d1
  have n1 := F.n1
  have n2 := F.n2
  have h5 : stp n ≤ 60 := by simp only [stp]; omega
  have h6 : 1 ≤ stp n := by simp only [stp]; omega
  have h7 : i ≤ stp n := by simp only [stp]; omega
  have h8 : a * d * (stp n - i) ≤ 6000000 * 60 := Nat.mul_le_mul (by omega) (by omega)
  have h9 : c * b * i ≤ 6000000 * 60 := Nat.mul_le_mul (by omega) (by omega)
  have h10 : b * d * stp n ≤ 1000000 * 60 := Nat.mul_le_mul (by omega) h5
  have h11 : 1 * 1 ≤ b * d * stp n := Nat.mul_le_mul (by omega) h6
  simp only [fden]
  omega
theorem fadL_len {a b c d n m : Nat} : (fadL a b c d n m).length = m := by simp [fadL]
theorem fadL_get {a b c d n m i : Nat} (h : i < m) : (fadL a b c d n m).getD i [] = frat a b c d n i := by
  simp [fadL, List.getD_eq_getElem?_getD, h]
theorem fadL_snoc {a b c d n m : Nat} : fadL a b c d n (m + 1) = fadL a b c d n m ++ [frat a b c d n m] := by
  simp [fadL, List.range_succ]
/-- the other way round -/
theorem frat_back {a b c d n i : Nat} (hi : i < n) (hn : 2 ≤ n) : frat c d a b n (n - 1 - i) = frat a b c d n i := by
  have hs : stp n = n - 1 := by simp only [stp]; omega
  have e1 : fden d b n = fden b d n := by simp only [fden]; rw [Nat.mul_comm d b]
  have e2 : fnum c d a b n (n - 1 - i) = fnum a b c d n i := by
    simp only [fnum, hs]
    have : n - 1 - (n - 1 - i) = i := by omega
    rw [this]; omega
  simp only [frat, fP, fQ, fgcd, e1, e2]
/-- the result of a fade: where a denominator gets too large -/
def fBad (a b c d n : Nat) : Nat → Bool
  | 0 => false
  | i + 1 => fBad a b c d n i || decide (1000 < fQ a b c d n i)
theorem fBad_mono {a b c d n i : Nat} (h : fBad a b c d n i = true) : ∀ {j}, i ≤ j → fBad a b c d n j = true := by
  intro j hj
  induction hj with
  | refl => exact h
  | step _ ih => simp only [fBad, ih, Bool.true_or]
end Go.Proofs.Ytakbcmofgfjeiaa.Vm
