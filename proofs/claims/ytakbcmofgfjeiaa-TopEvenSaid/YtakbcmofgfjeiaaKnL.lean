/- Laws of knot over the machine: zones. -/
import Derived.Test.YtakbcmofgfjeiaaKnF
namespace Go.Proofs.Ytakbcmofgfjeiaa.Vm
open Go
set_option maxRecDepth 100000
set_option linter.unusedSimpArgs false
set_option linter.unusedVariables false
attribute [-simp] List.getD_eq_getElem?_getD

def zB (a0 a1 a2 a3 a4 : Int) : Bool := decide (0 ≤ a0) && (decide (a0 ≤ 200) && (decide (0 ≤ a1) && (decide (a1 ≤ 1000) && (decide (1 ≤ a2) && (decide (a2 ≤ 6) && dens a3 a4)))))
/-- knots of the first i holes of one row -/
def kS (dn dd k : Nat) : Nat → Nat
  | 0 => 0
  | i + 1 => kS dn dd k i + ((bef dn dd 0 1 (i + 1) - bef dn dd 0 1 i) + k - 1) / k

section
variable {lim : Nat} {H : Hp} {K : V → Hp → Prop}

theorem knot_Validate {a0 a1 a2 a3 a4 : Int} {g : Bool} (h3 : I64 a3) (h4 : I64 a4) (hK : K (.int .i64 (if zB a0 a1 a2 a3 a4 then 0 else 1)) H) : VCall tbl lim 48 [.agg [.int .i64 a0, .int .i64 a1, .int .i64 a2, .int .i64 a3, .int .i64 a4, .bool g]] H K := by
  refine VCall_fn tbl_at48 rfl ?_
  have r3 : rd (some 2) [.int .i64 a0, .int .i64 a1, .int .i64 a2, .int .i64 a3, .int .i64 a4, .bool g] 3 = some (rat a3 a4) := rfl
  have t0 : rd none [.int .i64 a0, .int .i64 a1, .int .i64 a2, .int .i64 a3, .int .i64 a4, .bool g] 0 = some (.int .i64 a0) := rfl
  have t1 : rd none [.int .i64 a0, .int .i64 a1, .int .i64 a2, .int .i64 a3, .int .i64 a4, .bool g] 1 = some (.int .i64 a1) := rfl
  have t2 : rd none [.int .i64 a0, .int .i64 a1, .int .i64 a2, .int .i64 a3, .int .i64 a4, .bool g] 2 = some (.int .i64 a2) := rfl
  have hE : zB a0 a1 a2 a3 a4 = false → K (.int .i64 1) H := fun h => by simpa [h] using hK
  by_cases g1 : a0 < 0
  · simp [vf48, t0, t1, t2, r3, g1]; exact hE (by simp [zB]; omega)
  by_cases g2 : 200 < a0
  · simp [vf48, t0, t1, t2, r3, g1, g2]; exact hE (by simp [zB]; omega)
  by_cases g3 : a1 < 0
  · simp [vf48, t0, t1, t2, r3, g1, g2, g3]; exact hE (by simp [zB]; omega)
  by_cases g4 : 1000 < a1
  · simp [vf48, t0, t1, t2, r3, g1, g2, g3, g4]; exact hE (by simp [zB]; omega)
  by_cases g5 : a2 < 1
  · simp [vf48, t0, t1, t2, r3, g1, g2, g3, g4, g5]; exact hE (by simp [zB]; omega)
  by_cases g6 : 6 < a2
  · simp [vf48, t0, t1, t2, r3, g1, g2, g3, g4, g5, g6]; exact hE (by simp [zB]; omega)
  simp [vf48, t0, t1, t2, r3, g1, g2, g3, g4, g5, g6]
  refine knot_ValidDensity h3 h4 ?_
  cases hd : dens a3 a4 with
  | false => simp; exact hE (by simp [zB, hd])
  | true =>
    have : zB a0 a1 a2 a3 a4 = true := by simp [zB, hd]; omega
    simp; simpa [this] using hK
theorem ref_Validate {a0 a1 a2 a3 a4 : Int} {g : Bool} (h3 : I64 a3) (h4 : I64 a4) (hK : K (.int .i64 (if zB a0 a1 a2 a3 a4 then 0 else 1)) H) : VCall tbl lim 49 [.agg [.int .i64 a0, .int .i64 a1, .int .i64 a2, .int .i64 a3, .int .i64 a4, .bool g]] H K := by
  refine VCall_fn tbl_at49 rfl ?_
  have r3 : rd (some 2) [.int .i64 a0, .int .i64 a1, .int .i64 a2, .int .i64 a3, .int .i64 a4, .bool g] 3 = some (rat a3 a4) := rfl
  have t0 : rd none [.int .i64 a0, .int .i64 a1, .int .i64 a2, .int .i64 a3, .int .i64 a4, .bool g] 0 = some (.int .i64 a0) := rfl
  have t1 : rd none [.int .i64 a0, .int .i64 a1, .int .i64 a2, .int .i64 a3, .int .i64 a4, .bool g] 1 = some (.int .i64 a1) := rfl
  have t2 : rd none [.int .i64 a0, .int .i64 a1, .int .i64 a2, .int .i64 a3, .int .i64 a4, .bool g] 2 = some (.int .i64 a2) := rfl
  have hE : zB a0 a1 a2 a3 a4 = false → K (.int .i64 1) H := fun h => by simpa [h] using hK
  by_cases g1 : a0 < 0
  · simp [vf49, t0, t1, t2, r3, g1]; exact hE (by simp [zB]; omega)
  by_cases g2 : 200 < a0
  · simp [vf49, t0, t1, t2, r3, g1, g2]; exact hE (by simp [zB]; omega)
  by_cases g3 : a1 < 0
  · simp [vf49, t0, t1, t2, r3, g1, g2, g3]; exact hE (by simp [zB]; omega)
  by_cases g4 : 1000 < a1
  · simp [vf49, t0, t1, t2, r3, g1, g2, g3, g4]; exact hE (by simp [zB]; omega)
  by_cases g5 : a2 < 1
  · simp [vf49, t0, t1, t2, r3, g1, g2, g3, g4, g5]; exact hE (by simp [zB]; omega)
  by_cases g6 : 6 < a2
  · simp [vf49, t0, t1, t2, r3, g1, g2, g3, g4, g5, g6]; exact hE (by simp [zB]; omega)
  simp [vf49, t0, t1, t2, r3, g1, g2, g3, g4, g5, g6]
  refine ref_ValidDensity h3 h4 ?_
  cases hd : dens a3 a4 with
  | false => simp; exact hE (by simp [zB, hd])
  | true =>
    have : zB a0 a1 a2 a3 a4 = true := by simp [zB, hd]; omega
    simp; simpa [this] using hK

structure ZOk (A W k dn dd : Nat) : Prop where
  a : A ≤ 200
  w : W ≤ 1000
  k1 : 1 ≤ k
  k2 : k ≤ 6
  d : DP dn dd 0 1
theorem zOk {a0 a1 a2 a3 a4 : Int} (h : zB a0 a1 a2 a3 a4 = true) : ∃ A W k dn dd : Nat, a0 = A ∧ a1 = W ∧ a2 = k ∧ a3 = dn ∧ a4 = dd ∧ ZOk A W k dn dd := by
  have h : 0 ≤ a0 ∧ a0 ≤ 200 ∧ 0 ≤ a1 ∧ a1 ≤ 1000 ∧ 1 ≤ a2 ∧ a2 ≤ 6 ∧ dens a3 a4 = true := by simpa [zB] using h
  obtain ⟨h0, h1, h2, h3, h4, h5, h6⟩ := h
  obtain ⟨dn, dd, pn, pd, e1, e2, e3, e4, D⟩ := DP.of (m := 0) (e := 1) h6 (by decide)
  have : pn = 0 := by omega
  have : pd = 1 := by omega
  subst this
  subst pn
  exact ⟨a0.toNat, a1.toNat, a2.toNat, dn, dd, by omega, by omega, by omega, e1, e2, ⟨by omega, by omega, by omega, by omega, D⟩⟩
theorem in_small {dn dd i : Nat} (D : DP dn dd 0 1) : bef dn dd 0 1 (i + 1) - bef dn dd 0 1 i ≤ 6 := by
  have g1 := (bef_gap D (x := i) (y := i + 1) (by omega)).2
  have m := bef_mono (dn := dn) (dd := dd) (pn := 0) (pd := 1) (show i ≤ i + 1 by omega)
  have e1 : ((i + 1 : Nat) : Int) - i = 1 := by omega
  rw [e1] at g1
  have d3 := D.d3
  have h1 : (((bef dn dd 0 1 (i + 1) : Nat) : Int) - (bef dn dd 0 1 i : Nat)) * dd < 7 * dd := by omega
  have h3 := Int.lt_of_mul_lt_mul_right h1 (by omega)
  omega
theorem kS_bd {dn dd k : Nat} (D : DP dn dd 0 1) : ∀ i, kS dn dd k i ≤ 12 * i
  | 0 => Nat.le_refl _
  | i + 1 => by
    have h1 := kS_bd (k := k) D i
    have h2 := in_small (i := i) D
    have h3 : ((bef dn dd 0 1 (i + 1) - bef dn dd 0 1 i) + k - 1) / k ≤ 12 := by
      by_cases hk : k = 0
      · subst hk; simp
      · have : ((bef dn dd 0 1 (i + 1) - bef dn dd 0 1 i) + k - 1) / k < 12 + 1 := Nat.div_lt_of_lt_mul (by have : 1 ≤ k := by omega
                                                                                                            have : 13 ≤ 13 * k := by omega
                                                                                                            rw [Nat.mul_comm]; omega)
        omega
    simp only [kS]; omega

theorem knot_add {a0 a1 a2 a3 a4 : Int} {g : Bool} (h3 : I64 a3) (h4 : I64 a4)
    (hE : zB a0 a1 a2 a3 a4 = false → K (.tup [.agg [.int .i64 0, .int .i64 0, .int .i64 0, .int .i64 0, .int .i64 0, .bool false, .int .i64 0, .int .i64 0], .int .i64 1]) H)
    (hO : zB a0 a1 a2 a3 a4 = true → ∀ A W k dn dd : Nat, a0 = A → a1 = W → a2 = k → a3 = dn → a4 = dd → ZOk A W k dn dd →
      K (.tup [.agg [.int .i64 a0, .int .i64 a1, .int .i64 a2, .int .i64 a3, .int .i64 a4, .bool g, .int .i64 ((A : Int) * (bef dn dd 0 1 W : Nat)), .int .i64 ((A : Int) * (kS dn dd k W : Nat))], .int .i64 0]) H) :
    VCall tbl lim 75 [.agg [.int .i64 a0, .int .i64 a1, .int .i64 a2, .int .i64 a3, .int .i64 a4, .bool g]] H K := by
  refine VCall_fn tbl_at75 rfl ?_
  have r6 : rd (some 6) [.int .i64 a0, .int .i64 a1, .int .i64 a2, .int .i64 a3, .int .i64 a4, .bool g] 0 = some (.agg [.int .i64 a0, .int .i64 a1, .int .i64 a2, .int .i64 a3, .int .i64 a4, .bool g]) := rfl
  simp [vf75, r6]
  refine knot_Validate h3 h4 ?_
  cases hz : zB a0 a1 a2 a3 a4 with
  | false =>
    simp [splice]
    exact hE hz
  | true =>
    obtain ⟨A, W, k, dn, dd, rfl, rfl, rfl, rfl, rfl, Z⟩ := zOk hz
    have hk := hO hz A W k dn dd rfl rfl rfl rfl rfl Z
    have q0 : ∀ x y : V, rd none [V.int .i64 (A : Int), .int .i64 W, .int .i64 k, .int .i64 dn, .int .i64 dd, .bool g, x, y] 0 = some (.int .i64 (A : Int)) := fun _ _ => rfl
    have q1 : ∀ x y : V, rd none [V.int .i64 (A : Int), .int .i64 W, .int .i64 k, .int .i64 dn, .int .i64 dd, .bool g, x, y] 1 = some (.int .i64 (W : Int)) := fun _ _ => rfl
    have q2 : ∀ x y : V, rd none [V.int .i64 (A : Int), .int .i64 W, .int .i64 k, .int .i64 dn, .int .i64 dd, .bool g, x, y] 2 = some (.int .i64 (k : Int)) := fun _ _ => rfl
    have q3 : ∀ x y : V, rd (some 2) [V.int .i64 (A : Int), .int .i64 W, .int .i64 k, .int .i64 dn, .int .i64 dd, .bool g, x, y] 3 = some (rat dn dd) := fun _ _ => rfl
    have q6 : ∀ x y : V, rd none [V.int .i64 (A : Int), .int .i64 W, .int .i64 k, .int .i64 dn, .int .i64 dd, .bool g, x, y] 6 = some x := fun _ _ => rfl
    have q7 : ∀ x y : V, rd none [V.int .i64 (A : Int), .int .i64 W, .int .i64 k, .int .i64 dn, .int .i64 dd, .bool g, x, y] 7 = some y := fun _ _ => rfl
    have q8 : ∀ x y : V, rd (some 8) [V.int .i64 (A : Int), .int .i64 W, .int .i64 k, .int .i64 dn, .int .i64 dd, .bool g, x, y] 0 = some (.agg [V.int .i64 (A : Int), .int .i64 W, .int .i64 k, .int .i64 dn, .int .i64 dd, .bool g, x, y]) := fun _ _ => rfl
    have p0 : rd (some 2) [V.int .i64 0, .int .i64 1] 0 = some (rat (0 : Nat) (1 : Nat)) := rfl
    simp [r6, splice, q1]
    refine wLoop_up W (fun i fr L H' => (fr 1 = .lp 0 0 ∧ fr 2 = .lp 1 0 ∧ fr 3 = .int .i64 0 ∧ fr 5 = .lp 2 0 ∧ fr 6 = .lp 3 0 ∧ fr 20 = .int .i64 W ∧ fr 21 = .int .i64 i) ∧
      L = [[.int .i64 A, .int .i64 W, .int .i64 k, .int .i64 dn, .int .i64 dd, .bool g], [.int .i64 0, .int .i64 0, .int .i64 0, .int .i64 0, .int .i64 0, .bool false, .int .i64 0, .int .i64 0],
        [.int .i64 A, .int .i64 W, .int .i64 k, .int .i64 dn, .int .i64 dd, .bool g, .int .i64 ((A : Int) * (bef dn dd 0 1 i : Nat)), .int .i64 ((A : Int) * (kS dn dd k i : Nat))], [.int .i64 0, .int .i64 1]] ∧ H' = H)
      ⟨by simp, by simp [bef, kS], rfl⟩ ?_
    rintro i hi fr L H' ⟨⟨f1, f2, f3, f5, f6, f20, f21⟩, rfl, rfl⟩
    simp [f1, f2, f3, f5, f6, f20, f21]
    have hW := Z.w
    have hA := Z.a
    have hk1 := Z.k1
    have hk2 := Z.k2
    refine cond_dec (fun ht => ?_) fun hf => ?_
    · have w0 := wrap_i64 (n := (i : Int) + 1) (by omega) (by omega)
      simp [f1, f2, f3, f5, f6, f20, f21, q3, p0, w0]
      refine knot_stretch (pn := 0) (pd := 1) (a := i) (b := i + 1) Z.d (by omega) (by omega) ?_
      have m := bef_mono (dn := dn) (dd := dd) (pn := 0) (pd := 1) (show i ≤ i + 1 by omega)
      have hs := in_small (i := i) Z.d
      have b1 := bef_bd Z.d (h := i + 1) (by omega)
      have kb := kS_bd (k := k) Z.d (i + 1)
      have ek : kS dn dd k (i + 1) = kS dn dd k i + ((bef dn dd 0 1 (i + 1) - bef dn dd 0 1 i) + k - 1) / k := rfl
      obtain ⟨S, hS⟩ : ∃ S, S = bef dn dd 0 1 (i + 1) - bef dn dd 0 1 i := ⟨_, rfl⟩
      have eS : ((bef dn dd 0 1 (i + 1) : Nat) : Int) - (bef dn dd 0 1 i : Nat) = (S : Int) := by omega
      have eB : bef dn dd 0 1 (i + 1) = bef dn dd 0 1 i + S := by omega
      rw [← hS] at ek hs
      obtain ⟨Q, hQ⟩ : ∃ Q, Q = (S + k - 1) / k := ⟨_, rfl⟩
      rw [← hQ] at ek
      have eQ : ((S : Int) + k - 1).tdiv k = (Q : Int) := by
        have : (S : Int) + k - 1 = ((S + k - 1 : Nat) : Int) := by omega
        rw [this, hQ]; rfl
      rw [eS]
      rw [eB, ek]
      rw [eB] at b1
      rw [ek] at kb
      generalize bef dn dd 0 1 i = B at *
      generalize kS dn dd k i = C at *
      have m1 := mul_bd (a := (A : Int)) (b := (S : Int)) (A := 200) (B := 6) (by omega) (by omega)
      have m2 := mul_bd (a := (A : Int)) (b := (B : Int)) (A := 200) (B := 120001000000) (by omega) (by omega)
      have m3 := mul_bd (a := (A : Int)) (b := (Q : Int)) (A := 200) (B := 13000) (by omega) (by omega)
      have m4 := mul_bd (a := (A : Int)) (b := (C : Int)) (A := 200) (B := 13000) (by omega) (by omega)
      simp (disch := omega) [f1, f2, f3, f5, f6, f20, f21, q0, q1, q2, q3, q6, q7, p0, wrap_i64, splice, eQ, Int.mul_add]
      omega
    · have : i = W := by omega
      subst this
      simp [f1, f2, f3, f5, f6, f20, f21, q8, splice]
      exact hk
end
end Go.Proofs.Ytakbcmofgfjeiaa.Vm
