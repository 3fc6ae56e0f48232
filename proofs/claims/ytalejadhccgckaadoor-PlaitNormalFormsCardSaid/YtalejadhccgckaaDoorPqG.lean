/- The law PlaitSames. -/
import Derived.Test.YtalejadhccgckaaDoorPmD
namespace Go.Proofs.YtalejadhccgckaaDoor.Vm
open Go
set_option maxRecDepth 100000
set_option linter.unusedSimpArgs false
set_option linter.unusedVariables false
attribute [-simp] List.getD_eq_getElem?_getD

theorem law_PlaitSames {H : Hp} {lim : Nat} {u v : ByteArray} {K : V → Hp → Prop} (hH : HX glHp H) (hlim : lim ≤ H.length) (h1 : u.size ≤ maxLen) (h2 : v.size ≤ maxLen) (hK : ∀ X, K (.bool true) (H ++ X)) : VCall tbl lim 10 [.str u, .str v] H K := by
  have hc := chk_of hH
  refine VCall_fn tbl_at10 rfl ?_
  simp [vf10]
  refine long_t ?_
  by_cases hu : 200 < u.size
  · simp [hu]
    exact known_t hc hlim fun X => by simp; exact hK X
  simp [hu]
  refine long_t ?_
  by_cases hw : 200 < v.size
  · simp [hw]
    exact known_t hc hlim fun X => by simp; exact hK X
  simp [hw]
  cases hvv : (vld u && vld v) with
  | false =>
    have hs : samV u v = .tup [.bool false, .int .i64 1] := by simp [samV, hvv]
    refine same_t hc hlim fun X => ?_
    simp [hs]
    refine same_r (by omega) (by omega) ?_
    simp [hs, veqB]
    exact known_t (chk_app hc) (by simp; omega) fun W => by simp; exact hK _
  | true =>
    simp only [Bool.and_eq_true] at hvv
    obtain ⟨vu, vv⟩ := hvv
    have hs : samV u v = .tup [.bool (eqv u v), .int .i64 0] := by simp [samV, vu, vv]
    have hn1 : norV u = .tup [.int .i64 (nf (chT u) u.size).k, .str (tR (nf (chT u) u.size).R), .int .i64 0] := by simp [norV, vu]
    have hn2 : norV v = .tup [.int .i64 (nf (chT v) v.size).k, .str (tR (nf (chT v) v.size).R), .int .i64 0] := by simp [norV, vv]
    have hc1 : croV u = .tup [.int .i64 (cntL (chT u) u.size), .int .i64 0] := by simp [croV, vu]
    have hc2 : croV v = .tup [.int .i64 (cntL (chT v) v.size), .int .i64 0] := by simp [croV, vv]
    have e1 := eqv_mc vu vv
    have e2 : eqv u v = (decide ((nf (chT u) u.size).k = (nf (chT v) v.size).k) && decide ((nf (chT u) u.size).R = (nf (chT v) v.size).R)) := rfl
    have q1 := veq_tR (nf_ok (f := chT u) u.size).1 (nf_ok (f := chT v) v.size).1
    have r4 : ∀ a b c d : V, rd (some 4) [a, b, c, d] 0 = some (.agg [a, b, c, d]) := fun _ _ _ _ => rfl
    refine same_t hc hlim fun X => ?_
    simp [hs]
    refine same_r (by omega) (by omega) ?_
    simp [hs, veqB]
    refine normal2_t (chk_app hc) (by simp; omega) fun X2 => ?_
    simp [hn1]
    refine normal2_t (chk_app hc) (by simp; omega) fun X3 => ?_
    simp [hn2]
    refine matrix_t (by simp; omega) (fun _ X4 => ?_) (fun h => by rw [vu] at h; cases h)
    simp [splice, M4.V, dz4]
    refine matrix_t (by simp; omega) (fun _ X5 => ?_) (fun h => by rw [vv] at h; cases h)
    simp [splice, M4.V, dz4]
    refine cross_t (by simp; omega) fun X6 => ?_
    simp [hc1]
    refine cross_t (by simp; omega) fun X7 => ?_
    rw [hc2]
    have q2 := veqM (neg := false) (a := mat (chT u) u.size) (b := mat (chT v) v.size)
    simp only [M4.V, Bool.false_eq_true, if_false] at q2
    generalize eqv u v = B at e1 e2
    generalize nf (chT u) u.size = x at q1 e2
    generalize nf (chT v) v.size = y at q1 e2
    generalize mat (chT u) u.size = a at q2 e1
    generalize mat (chT v) v.size = b at q2 e1
    generalize cntL (chT u) u.size = c at e1
    generalize cntL (chT v) v.size = d at e1
    have w1 : (decide (x.k = y.k) && decide (x.R = y.R)) = B := e2.symm
    have w2 : (mEq a b && decide (c = d)) = B := e1.symm
    have w3 : (decide (x.R = y.R) && decide (x.k = y.k)) = B := by rw [Bool.and_comm]; exact w1
    cases hB : B <;> rw [hB] at w1 w2 <;> (by_cases k1 : x.k = y.k) <;> (by_cases k2 : x.R = y.R) <;> simp [k1, k2] at w1 <;> (by_cases k3 : c = d) <;> cases k4 : mEq a b <;> simp [k3, k4] at w2 <;> rw [k4] at q2 <;>
      simp [k1, k2, k3, q1, q2, r4, veqB, veq_self] <;>
      exact known_t (chk_app hc) (by simp; omega) fun W => by simp; exact hK _
end Go.Proofs.YtalejadhccgckaaDoor.Vm
