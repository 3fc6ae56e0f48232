/- Laws of knot over the machine: joins. -/
import Derived.Test.YtakbcmofgfjeiaaKnE
namespace Go.Proofs.Ytakbcmofgfjeiaa.Vm
open Go
set_option maxRecDepth 100000
set_option linter.unusedSimpArgs false
set_option linter.unusedVariables false
attribute [-simp] List.getD_eq_getElem?_getD

section
variable {lim : Nat} {H : Hp} {K : V → Hp → Prop}

theorem law_KnotJoins {a b c d e f m : Int} (hlim : lim ≤ H.length) (ha : I64 a) (hb : I64 b) (hc : I64 c) (hd : I64 d) (he : I64 e) (hf : I64 f) (hm : I64 m) (hK : ∀ H', K (.bool true) H') :
    VCall tbl lim 6 [.agg [.int .i64 a, .int .i64 b, .int .i64 c, .int .i64 d, .int .i64 e, .int .i64 f], .int .i64 m] H K := by
  refine VCall_fn tbl_at6 rfl ?_
  have r0 : rd (some 2) [.int .i64 a, .int .i64 b, .int .i64 c, .int .i64 d, .int .i64 e, .int .i64 f] 0 = some (rat a b) := rfl
  have r2 : rd (some 2) [.int .i64 a, .int .i64 b, .int .i64 c, .int .i64 d, .int .i64 e, .int .i64 f] 2 = some (rat c d) := rfl
  have t4 : rd none [V.int .i64 a, .int .i64 b, .int .i64 c, .int .i64 d, .int .i64 e, .int .i64 f] 4 = some (.int .i64 e) := rfl
  have t5 : rd none [V.int .i64 a, .int .i64 b, .int .i64 c, .int .i64 d, .int .i64 e, .int .i64 f] 5 = some (.int .i64 f) := rfl
  simp [vf6, r0, r2, t4, t5]
  refine knot_Stretch ha hb hc hd ?_
  simp [r0, r2, t4, t5]
  refine knot_Stretch ha hb hc hd ?_
  simp [r0, r2, t4, t5]
  cases h1 : rightB a b c d e m with
  | false =>
    simp [strP, h1]
    refine law_known hlim fun H2 _ => ?_
    simp
    exact hK _
  | true =>
  cases h2 : rightB a b c d m f with
  | false =>
    simp [strP, h1, h2]
    refine law_known hlim fun H2 _ => ?_
    simp
    exact hK _
  | true =>
  have hh1 := right_iff.1 h1
  have hh2 := right_iff.1 h2
  have h3 : rightB a b c d e f = true := right_iff.2 ⟨hh1.1, by omega, by omega, by omega⟩
  obtain ⟨dn, dd, pn, pd, rfl, rfl, rfl, rfl, D⟩ := DP.of hh1.1.1 hh1.1.2
  obtain ⟨X, rfl⟩ : ∃ N : Nat, e = N := ⟨e.toNat, by omega⟩
  obtain ⟨Y, rfl⟩ : ∃ N : Nat, f = N := ⟨f.toNat, by omega⟩
  obtain ⟨M, rfl⟩ : ∃ N : Nat, m = N := ⟨m.toNat, by omega⟩
  have bX := bef_bd D (h := X) (by omega)
  have bM := bef_bd D (h := M) (by omega)
  have bY := bef_bd D (h := Y) (by omega)
  have s1 : strP dn dd pn pd X M = (((bef dn dd pn pd M : Nat) : Int) - ((bef dn dd pn pd X : Nat) : Int), 0) := by simp [strP, h1]
  have s2 : strP dn dd pn pd M Y = (((bef dn dd pn pd Y : Nat) : Int) - ((bef dn dd pn pd M : Nat) : Int), 0) := by simp [strP, h2]
  have s3 : strP dn dd pn pd X Y = (((bef dn dd pn pd Y : Nat) : Int) - ((bef dn dd pn pd X : Nat) : Int), 0) := by simp [strP, h3]
  have q0 := D.d2
  have w0 : (((bef dn dd pn pd M : Nat) : Int) - ((bef dn dd pn pd X : Nat) : Int) : Int) + (((bef dn dd pn pd Y : Nat) : Int) - ((bef dn dd pn pd M : Nat) : Int)) = ((bef dn dd pn pd Y : Nat) : Int) - ((bef dn dd pn pd X : Nat) : Int) := by omega
  have w1 := wrap_i64 (n := ((bef dn dd pn pd Y : Nat) : Int) - ((bef dn dd pn pd X : Nat) : Int)) (by omega) (by omega)
  have wd := wrap_i64 (n := (Y : Int) - X) (by omega) (by omega)
  simp [s1, s2, r0, r2, t4, t5]
  refine knot_Stretch ha hb hc hd ?_
  simp [s1, s2, s3, r0, r2, t4, t5, w0, w1]
  refine wLoop_up (Y - X) (fun i fr L H' => (fr 2 = .lp 0 0 ∧ fr 9 = .int .i64 (((bef dn dd pn pd Y : Nat) : Int) - ((bef dn dd pn pd X : Nat) : Int)) ∧ fr 11 = .int .i64 (((bef dn dd pn pd (X + i) : Nat) : Int) - ((bef dn dd pn pd X : Nat) : Int)) ∧ fr 12 = .int .i64 ((X + i : Nat) : Int)) ∧ L = [[V.int .i64 dn, .int .i64 dd, .int .i64 pn, .int .i64 pd, .int .i64 X, .int .i64 Y]] ∧ H' = H) ⟨by simp, rfl, rfl⟩ ?_
  rintro i hi fr L H' ⟨⟨f2, f9, f11, f12⟩, rfl, rfl⟩
  simp [f2, f9, f11, f12, t4, t5, wd]
  by_cases h60 : (Y : Int) - X ≤ 60
  · simp [h60]
    refine cond_dec (fun ht => ?_) fun hf => ?_
    · simp [f2, f9, f11, f12, r0, r2]
      refine knot_Hairs ha hb hc hd ?_
      have hx : hairsP dn dd pn pd ((X : Int) + i) = (inHole dn dd pn pd (X + i), 0) := by
        have e : (X : Int) + i = ((X + i : Nat) : Int) := by omega
        have hh : hole ((X + i : Nat) : Int) = true := by simp [hole]; omega
        rw [e]; simp only [hairsP, hh1.1.1, hh1.1.2, hh, Bool.and_true, if_true, Int.toNat_natCast]
      have bi := bef_bd D (h := X + i) (by omega)
      have bj := bef_bd D (h := X + i + 1) (by omega)
      have ein : (((bef dn dd pn pd (X + i) : Nat) : Int) - ((bef dn dd pn pd X : Nat) : Int) : Int) + inHole dn dd pn pd (X + i) = ((bef dn dd pn pd (X + (i + 1)) : Nat) : Int) - ((bef dn dd pn pd X : Nat) : Int) := by simp only [inHole, ← Nat.add_assoc]; omega
      have w2 := wrap_i64 (n := ((bef dn dd pn pd (X + (i + 1)) : Nat) : Int) - ((bef dn dd pn pd X : Nat) : Int)) (by rw [← Nat.add_assoc]; omega) (by rw [← Nat.add_assoc]; omega)
      have w3 := wrap_i64 (n := (X : Int) + i + 1) (by omega) (by omega)
      simp [hx, f2, f9, f11, f12, ein, w2, w3]
      omega
    · have hie : i = Y - X := by omega
      subst hie
      have e : X + (Y - X) = Y := by omega
      rw [e] at f11
      have h61 : ¬ 60 < (Y : Int) - X := by omega
      simp [f2, f9, f11, f12, t4, t5, wd, h61]
      refine law_known hlim fun H2 _ => ?_
      simp
      exact hK _
  · have h61 : 60 < (Y : Int) - X := by omega
    simp [h60, f2, f9, f11, f12, t4, t5, wd, h61]
    refine law_known hlim fun H2 _ => ?_
    simp
    exact hK _
end
end Go.Proofs.Ytakbcmofgfjeiaa.Vm
