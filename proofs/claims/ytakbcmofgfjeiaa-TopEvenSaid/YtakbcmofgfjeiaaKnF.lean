/- Laws of knot over the machine: stretches, joins. -/
import Derived.Test.YtakbcmofgfjeiaaKnE
namespace Go.Proofs.Ytakbcmofgfjeiaa.Vm
open Go
set_option maxRecDepth 100000
set_option linter.unusedSimpArgs false
set_option linter.unusedVariables false
attribute [-simp] List.getD_eq_getElem?_getD

section
variable {lim : Nat} {H : Hp} {K : V → Hp → Prop}

theorem bef_gap {dn dd pn pd x y : Nat} (D : DP dn dd pn pd) (h : x ≤ y) :
    -(dd : Int) < ((bef dn dd pn pd y : Nat) - (bef dn dd pn pd x : Nat) : Int) * dd - ((y : Int) - x) * dn ∧ ((bef dn dd pn pd y : Nat) - (bef dn dd pn pd x : Nat) : Int) * dd - ((y : Int) - x) * dn < dd := by
  have hd := D.d1
  have hp := D.p1
  have hE : 0 < dd * pd := Nat.mul_pos hd hp
  have a1 := Nat.div_add_mod (x * dn * pd + pn * dd) (dd * pd)
  have a2 := Nat.mod_lt (x * dn * pd + pn * dd) hE
  have b1 := Nat.div_add_mod (y * dn * pd + pn * dd) (dd * pd)
  have b2 := Nat.mod_lt (y * dn * pd + pn * dd) hE
  simp only [bef]
  generalize (x * dn * pd + pn * dd) / (dd * pd) = A at *
  generalize (x * dn * pd + pn * dd) % (dd * pd) = r at *
  generalize (y * dn * pd + pn * dd) / (dd * pd) = B at *
  generalize (y * dn * pd + pn * dd) % (dd * pd) = s at *
  obtain ⟨k, rfl⟩ : ∃ k, y = x + k := ⟨y - x, by omega⟩
  have e : ((dd * pd * B + s : Nat) : Int) - ((dd * pd * A + r : Nat) : Int) = ((k * dn * pd : Nat) : Int) := by
    rw [b1, a1]
    have : (x + k) * dn * pd + pn * dd = x * dn * pd + pn * dd + k * dn * pd := by
      rw [Nat.add_mul, Nat.add_mul]; omega
    rw [this]; omega
  have e2 : (((B : Int) - A) * dd - k * dn) * pd = (r : Int) - s := by
    simp only [Int.natCast_add, Int.natCast_mul] at e
    have e3 : (((B : Int) - A) * dd - k * dn) * pd = (dd * pd * B + s - (dd * pd * A + r)) - k * dn * pd + (r - s) := by grind
    rw [e3, e]; omega
  have e4 : ((x + k : Nat) : Int) - x = k := by omega
  rw [e4]
  generalize ((B : Int) - A) * dd - k * dn = G at *
  have hr : (r : Int) < dd * pd := by exact_mod_cast a2
  have hs : (s : Int) < dd * pd := by exact_mod_cast b2
  have hp' : (0 : Int) < pd := by omega
  constructor
  · refine Int.lt_of_mul_lt_mul_right (a := (pd : Int)) ?_ (by omega)
    rw [e2, Int.neg_mul]; omega
  · refine Int.lt_of_mul_lt_mul_right (a := (pd : Int)) ?_ (by omega)
    rw [e2]; omega

theorem law_KnotStretches {a b c d e f : Int} (hlim : lim ≤ H.length) (ha : I64 a) (hb : I64 b) (hc : I64 c) (hd : I64 d) (he : I64 e) (hf : I64 f) (hK : ∀ H', K (.bool true) H') :
    VCall tbl lim 5 [.agg [.int .i64 a, .int .i64 b, .int .i64 c, .int .i64 d, .int .i64 e, .int .i64 f]] H K := by
  refine VCall_fn tbl_at5 rfl ?_
  have r0 : rd (some 2) [.int .i64 a, .int .i64 b, .int .i64 c, .int .i64 d, .int .i64 e, .int .i64 f] 0 = some (rat a b) := rfl
  have r2 : rd (some 2) [.int .i64 a, .int .i64 b, .int .i64 c, .int .i64 d, .int .i64 e, .int .i64 f] 2 = some (rat c d) := rfl
  simp [vf5, r0, r2]
  refine knot_Stretch ha hb hc hd ?_
  simp [r0, r2]
  refine ref_Stretch ha hb hc hd hlim fun H1 x1 => ?_
  replace x1 : HX H H1 := x1
  have l1 := x1.len
  simp [r0, r2]
  cases h : rightB a b c d e f with
  | false =>
    simp [strP, h]
    refine law_known (show lim ≤ H1.length by omega) fun H2 _ => ?_
    simp
    exact hK _
  | true =>
  have hh := right_iff.1 h
  obtain ⟨dn, dd, pn, pd, rfl, rfl, rfl, rfl, D⟩ := DP.of hh.1.1 hh.1.2
  obtain ⟨X, rfl⟩ : ∃ N : Nat, e = N := ⟨e.toNat, by omega⟩
  obtain ⟨Y, rfl⟩ : ∃ N : Nat, f = N := ⟨f.toNat, by omega⟩
  have g := bef_gap D (x := X) (y := Y) (by omega)
  have bY := bef_bd D (h := Y) (by omega)
  have bX := bef_bd D (h := X) (by omega)
  have m1 : bef dn dd pn pd X ≤ bef dn dd pn pd Y := bef_mono (by omega)
  have q0 := D.d2
  have q9 := D.d3
  have q1 : (bef dn dd pn pd Y - bef dn dd pn pd X) * dd ≤ 120001000000 * 1000 := Nat.mul_le_mul (by omega) q0
  have q2 : (Y - X) * dn ≤ 10000 * 6000 := Nat.mul_le_mul (by omega) (by omega)
  have eS : ((bef dn dd pn pd Y : Nat) - (bef dn dd pn pd X : Nat) : Int) = ((bef dn dd pn pd Y - bef dn dd pn pd X : Nat) : Int) := by omega
  have eK : (Y : Int) - X = ((Y - X : Nat) : Int) := by omega
  simp only [strP, h, if_true, Int.toNat_natCast]
  rw [eS, eK] at g
  rw [eS]
  simp [r0, r2]
  generalize bef dn dd pn pd Y - bef dn dd pn pd X = S at *
  obtain ⟨P, hP⟩ : ∃ P : Nat, P = S * dd := ⟨_, rfl⟩
  obtain ⟨Q, hQ⟩ : ∃ Q : Nat, Q = (Y - X) * dn := ⟨_, rfl⟩
  have eP : (S : Int) * dd = (P : Int) := by rw [hP]; exact (Int.natCast_mul _ _).symm
  have eQ : ((Y - X : Nat) : Int) * dn = (Q : Int) := by rw [hQ]; exact (Int.natCast_mul _ _).symm
  rw [← hP] at q1
  rw [← hQ] at q2
  rw [eP, eQ] at g
  have w1 := wrap_i64 (n := ((Y - X : Nat) : Int)) (by omega) (by omega)
  have w2 := wrap_i64 (n := (P : Int)) (by omega) (by omega)
  have w3 := wrap_i64 (n := (Q : Int)) (by omega) (by omega)
  have w4 := wrap_i64 (n := (P : Int) - Q) (by omega) (by omega)
  have w5 := wrap_i64 (n := -(dd : Int)) (by omega) (by omega)
  have wl : IntKind.wrap .i64 (IntKind.wrap .i64 ((S : Int) * dd) - IntKind.wrap .i64 (IntKind.wrap .i64 ((Y : Int) - X) * dn)) = P - Q := by
    rw [eP, eK, w1, eQ, w2, w3, w4]
  have c1 : (P : Int) - Q < dd := g.2
  have c2 : -(dd : Int) < P - Q := g.1
  have t0 : rd none [V.int .i64 (dn : Int), .int .i64 dd, .int .i64 pn, .int .i64 pd, .int .i64 X, .int .i64 Y] 0 = some (.int .i64 dn) := rfl
  have t1 : rd none [V.int .i64 (dn : Int), .int .i64 dd, .int .i64 pn, .int .i64 pd, .int .i64 X, .int .i64 Y] 1 = some (.int .i64 dd) := rfl
  have t4 : rd none [V.int .i64 (dn : Int), .int .i64 dd, .int .i64 pn, .int .i64 pd, .int .i64 X, .int .i64 Y] 4 = some (.int .i64 X) := rfl
  have t5 : rd none [V.int .i64 (dn : Int), .int .i64 dd, .int .i64 pn, .int .i64 pd, .int .i64 X, .int .i64 Y] 5 = some (.int .i64 Y) := rfl
  simp [t0, t1, t4, t5, wl, w5, c1, c2]
  refine law_known (show lim ≤ H1.length by omega) fun H2 _ => ?_
  simp
  exact hK _
end
end Go.Proofs.Ytakbcmofgfjeiaa.Vm
