/- The law PlaitEnds. -/
import Derived.Test.YtalejadhccgckaaDoorPkH
import Derived.Test.YtalejadhccgckaaDoorPkE
namespace Go.Proofs.YtalejadhccgckaaDoor.Vm
open Go
set_option maxRecDepth 100000
set_option linter.unusedSimpArgs false
set_option linter.unusedVariables false
attribute [-simp] List.getD_eq_getElem?_getD

theorem veq3 {neg : Bool} {a b c : Int} : veqA neg [.int .i64, .int .i64, .int .i64] (.agg [.int .i64 a, .int .i64 b, .int .i64 c]) (.agg [.int .i64 a, .int .i64 b, .int .i64 c]) = some (.bool (!neg)) := by
  have : eqCells [.int .i64, .int .i64, .int .i64] [.int .i64 a, .int .i64 b, .int .i64 c] [.int .i64 a, .int .i64 b, .int .i64 c] = some true := by simp [eqCells, eqCell]
  simp only [veqA, this]; cases neg <;> rfl
theorem en_sum {f : F9} (h : P6 f) : en f 3 0 + en f 3 1 + en f 3 2 = 3 := by
  obtain ⟨a, b, c, x, y, z, p, q, r⟩ := f
  simp only [P6] at h
  rcases h with ⟨rfl, rfl, rfl⟩ | ⟨rfl, rfl, rfl⟩ | ⟨rfl, rfl, rfl⟩ | ⟨rfl, rfl, rfl⟩ | ⟨rfl, rfl, rfl⟩ | ⟨rfl, rfl, rfl⟩ <;> simp [en]
theorem en_bd {f : F9} {i : Nat} {k : Int} : 0 ≤ en f i k ∧ en f i k ≤ 2 := by
  unfold en; repeat' split
  all_goals omega
theorem law_PlaitEnds {H : Hp} {lim : Nat} {s : ByteArray} {K : V → Hp → Prop} (hH : HX glHp H) (hlim : lim ≤ H.length) (h1 : s.size ≤ maxLen) (hK : ∀ X, K (.bool true) (H ++ X)) : VCall tbl lim 6 [.str s] H K := by
  have hc := chk_of hH
  refine VCall_fn tbl_at6 rfl ?_
  simp [vf6, iz3]
  refine long_t ?_
  by_cases hu : 200 < s.size
  · simp [hu]
    exact known_t hc hlim fun X => by simp; exact hK X
  simp [hu]
  refine ends_t hlim fun X1 => ?_
  cases hv : vld s with
  | false =>
    have e1 : endV s = .tup [.agg z3V, .int .i64 1] := by simp [endV, hv]
    have e2 : rinV s = .tup [.int .i64 0, .int .i64 1] := by simp [rinV, hv]
    have e3 : croV s = .tup [.int .i64 0, .int .i64 1] := by simp [croV, hv]
    have e4 : shaV s = .tup [.agg z3V, .agg z3V, .int .i64 1] := by simp [shaV, hv]
    simp [e1, splice]
    refine ends_r (by omega) ?_
    simp [e1, splice]
    refine rings_t (by simp; omega) fun X2 => ?_
    simp [e2]
    refine rings_r (by omega) ?_
    simp [e2]
    refine cross_t (by simp; omega) fun X3 => ?_
    simp [e3]
    refine cross_r (by omega) ?_
    simp [e3]
    refine shadow_t (by simp; omega) fun X4 => ?_
    simp [e4, splice]
    refine shadow_r (by omega) ?_
    simp [e4, splice, rd3w, veq3]
    exact known_t (chk_app hc) (by simp; omega) fun W => by simp; exact hK _
  | true =>
    have hb := vld_len hv
    obtain ⟨hP, hS⟩ := fol_ok (g := chT s) s.size
    have e1 : endV s = .tup [.agg ((fol (chT s) s.size).E 3), .int .i64 0] := by simp [endV, hv]
    have e2 : rinV s = .tup [.int .i64 (ringN (fol (chT s) s.size)), .int .i64 0] := by simp [rinV, hv]
    have e3 : croV s = .tup [.int .i64 (cntL (chT s) s.size), .int .i64 0] := by simp [croV, hv]
    have e4 : shaV s = .tup [.agg (fol (chT s) s.size).O, .agg (fol (chT s) s.size).U, .int .i64 0] := by simp [shaV, hv]
    have hen := en_sum hP
    have b0 := en_bd (f := fol (chT s) s.size) (i := 3) (k := 0)
    have b1 := en_bd (f := fol (chT s) s.size) (i := 3) (k := 1)
    have b2 := en_bd (f := fol (chT s) s.size) (i := 3) (k := 2)
    generalize fol (chT s) s.size = f at hP hS e1 e2 e4 hen b0 b1 b2
    generalize ringN f = rn at e2
    generalize cntL (chT s) s.size = cn at e3
    simp only [F9.E] at e1
    simp only [Sum] at hS
    generalize en f 3 0 = n0 at e1 hen b0
    generalize en f 3 1 = n1 at e1 hen b1
    generalize en f 3 2 = n2 at e1 hen b2
    obtain ⟨a, b, c, x, y, z, p, q, r⟩ := f
    simp only [F9.O, F9.U] at e4
    simp only [Sum] at hS
    have q1 : IntKind.wrap .i64 (IntKind.wrap .i64 (x + y) + z) = s.size := by rw [wrap_i64 (n := x + y) (by omega) (by omega), wrap_i64 (by omega) (by omega)]; omega
    have q2 : IntKind.wrap .i64 (IntKind.wrap .i64 (p + q) + r) = s.size := by rw [wrap_i64 (n := p + q) (by omega) (by omega), wrap_i64 (by omega) (by omega)]; omega
    have q3 : IntKind.wrap .i64 (IntKind.wrap .i64 (n0 + n1) + n2) = 3 := by rw [wrap_i64 (n := n0 + n1) (by omega) (by omega), wrap_i64 (by omega) (by omega)]; omega
    have ls : vlenT (.str s) = some (.int .i64 s.size) := rfl
    simp [e1, splice]
    refine ends_r (by omega) ?_
    simp [e1, splice]
    refine rings_t (by simp; omega) fun X2 => ?_
    simp [e2]
    refine rings_r (by omega) ?_
    simp [e2]
    refine cross_t (by simp; omega) fun X3 => ?_
    simp [e3]
    refine cross_r (by omega) ?_
    simp [e3]
    refine shadow_t (by simp; omega) fun X4 => ?_
    simp [e4, splice]
    refine shadow_r (by omega) ?_
    simp [e4, splice, rd3w, rd3a, rd3b, rd3c, veq3, q1, q2, q3]
    exact known_t (chk_app hc) (by simp; omega) fun W => by simp; exact hK _
end Go.Proofs.YtalejadhccgckaaDoor.Vm
