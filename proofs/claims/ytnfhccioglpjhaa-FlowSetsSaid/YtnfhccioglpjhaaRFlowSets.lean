/- 'FlowSets': the given statement: for every input the law returns true, and what it was given reads as before. No condition. -/
import Derived.Test.YtnfhccioglpjhaaFyE
import Derived.Test.YtnfhccioglpjhaaVmArg
import Derived.Test.YtnfhccioglpjhaaRows
namespace Go.Proofs.Ytnfhccioglpjhaa.flowSets
open Go Go.Proofs.Ytnfhccioglpjhaa.Vm
set_option linter.unusedVariables false
set_option maxRecDepth 100000
theorem law (H : Hp) (us : List V) (dss : List (List CD)) (h : RepAs H [(true, [cInt, cInt, cInts, .sl [cInt, cInt, cInt]]), (true, [cInt, cInt, cInt]), (true, [cInt, cInt, cInt])] us dss) : VCall tbl H.length 3 us H fun v _ => v = .bool true := by
  obtain ⟨v0, us0, _, _, e0, _, a0, h0⟩ := repas_cons h
  subst e0
  obtain ⟨v1, us1, _, _, e1, _, a1, h1⟩ := repas_cons h0
  subst e1
  obtain ⟨v2, us2, _, _, e2, _, a2, h2⟩ := repas_cons h1
  subst e2
  have e := repas_nil h2
  subst e
  obtain ⟨ws0, e0, b0⟩ := repa_agg a0
  subst e0
  obtain ⟨l0, c0⟩ := fld_of b0
  obtain ⟨ws1, e1, b1x0⟩ := repa_agg a1
  subst e1
  obtain ⟨x1x0, xs1x0, _, _, e1x0, _, p1x0, b1x1⟩ := reps_cons b1x0
  subst e1x0
  obtain ⟨x1x1, xs1x1, _, _, e1x1, _, p1x1, b1x2⟩ := reps_cons b1x1
  subst e1x1
  obtain ⟨x1x2, xs1x2, _, _, e1x2, _, p1x2, b1x3⟩ := reps_cons b1x2
  subst e1x2
  have e1z := reps_nil b1x3
  subst e1z
  obtain ⟨n1x0, q1x0, c1x0⟩ := int_of p1x0
  subst q1x0
  obtain ⟨n1x1, q1x1, c1x1⟩ := int_of p1x1
  subst q1x1
  obtain ⟨n1x2, q1x2, c1x2⟩ := int_of p1x2
  subst q1x2
  obtain ⟨ws2, e2, b2x0⟩ := repa_agg a2
  subst e2
  obtain ⟨x2x0, xs2x0, _, _, e2x0, _, p2x0, b2x1⟩ := reps_cons b2x0
  subst e2x0
  obtain ⟨x2x1, xs2x1, _, _, e2x1, _, p2x1, b2x2⟩ := reps_cons b2x1
  subst e2x1
  obtain ⟨x2x2, xs2x2, _, _, e2x2, _, p2x2, b2x3⟩ := reps_cons b2x2
  subst e2x2
  have e2z := reps_nil b2x3
  subst e2z
  obtain ⟨n2x0, q2x0, c2x0⟩ := int_of p2x0
  subst q2x0
  obtain ⟨n2x1, q2x1, c2x1⟩ := int_of p2x1
  subst q2x1
  obtain ⟨n2x2, q2x2, c2x2⟩ := int_of p2x2
  subst q2x2
  exact law_FlowSets c0 (Nat.le_refl _) c1x0 c1x1 c1x2 c2x0 c2x1 c2x2 (fun _ => rfl)

theorem own : ownKnob Try.prog.godebug = none := by kernel_rfl
theorem laidOut : laidOutB Try.prog = true := by kernel_rfl
theorem lifted (os : Os) (started : os.Started) (D : Type) (enc : TypeId × Value → D) :
    ReturnsInHanded {} Try.checked os 3 .any (Rows.flowSetsSpec.pre6 enc Try.prog Try.f3 Rows.flowSetsRow.domain false) (Rows.flowSetsSpec.post enc Try.prog Try.f3 false true false false) :=
  lifted_of (C := Try.checked) (s := Rows.flowSetsSpec) (g := 20) (cts := [(true, [cInt, cInt, cInts, .sl [cInt, cInt, cInt]]), (true, [cInt, cInt, cInt]), (true, [cInt, cInt, cInt])]) own started (by kernel_rfl) Try.func3 tblOk laidOut
    (ChangeSpec.witness6 (enc := enc) (C := Try.checked) false ⟨#[], #[.agg #[.int .i64 0, .int .i64 0, .slice none 0 0, .slice none 0 0], .agg #[.int .i64 0, .int .i64 0, .int .i64 0], .agg #[.int .i64 0, .int .i64 0, .int .i64 0]], []⟩ 8 (by kernel_rfl) (by kernel_rfl) (by kernel_rfl) (by kernel_rfl))
    rfl (by kernel_rfl) Try.underlying4 (by kernel_rfl) (by decide +kernel)
    (fun ds h => by
      have h : ds.length = 3 := h
      match ds, h with
      | [d0, d1, d2], _ => rfl)
    law

theorem proved : Rows.FlowSetsSaid :=
  OpenClaim.holds_of_wide 3 Try.f3 rfl rfl rfl rfl rfl rfl rfl ⟨rfl, rfl, rfl, rfl, rfl⟩ rfl rfl rfl rfl rfl (by kernel_rfl) Try.func3 (by kernel_rfl)
    (of_decide_eq_true (by kernel_rfl)) (by unfold Func.isWrapper; first | (rw [if_pos (by decide +kernel)]; kernel_rfl) | (rw [if_neg (by decide +kernel)]; exact ⟨rfl, rfl⟩))
    (fun os started H enc _ => lifted os started H enc)
end Go.Proofs.Ytnfhccioglpjhaa.flowSets
