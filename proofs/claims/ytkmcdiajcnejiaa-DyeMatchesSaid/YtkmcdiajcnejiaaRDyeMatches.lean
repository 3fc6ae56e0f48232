/- 'DyeMatches': the given statement: for every input the law returns true, and what it was given reads as before. No condition. -/
import Derived.Test.YtkmcdiajcnejiaaBmB
import Derived.Test.YtkmcdiajcnejiaaVmArg
import Derived.Test.YtkmcdiajcnejiaaRows
namespace Go.Proofs.Ytkmcdiajcnejiaa.dyeMatches
open Go Go.Proofs.Ytkmcdiajcnejiaa.Vm
set_option linter.unusedVariables false
set_option maxRecDepth 100000
theorem law (H : Hp) (us : List V) (dss : List (List CD)) (h : RepAs H [(false, [.sl [cInt, cInt, cInt, cInt]]), (false, [.sl [cInt, cInt, cInt, cInt]]), (true, [cInt, cInt])] us dss) : VCall tbl H.length 6 us H fun v _ => v = .bool true := by
  obtain ⟨v0, us0, _, _, e0, _, a0, h0⟩ := repas_cons h
  subst e0
  obtain ⟨v1, us1, _, _, e1, _, a1, h1⟩ := repas_cons h0
  subst e1
  obtain ⟨v2, us2, _, _, e2, _, a2, h2⟩ := repas_cons h1
  subst e2
  have e := repas_nil h2
  subst e
  obtain ⟨_, b0⟩ := repa_one a0
  obtain ⟨l0, c0⟩ := pts_of b0
  obtain ⟨_, b1⟩ := repa_one a1
  obtain ⟨l1, c1⟩ := pts_of b1
  obtain ⟨ws2, e2, b2x0⟩ := repa_agg a2
  subst e2
  obtain ⟨x2x0, xs2x0, _, _, e2x0, _, p2x0, b2x1⟩ := reps_cons b2x0
  subst e2x0
  obtain ⟨x2x1, xs2x1, _, _, e2x1, _, p2x1, b2x2⟩ := reps_cons b2x1
  subst e2x1
  have e2z := reps_nil b2x2
  subst e2z
  obtain ⟨n2x0, q2x0, c2x0⟩ := int_of p2x0
  subst q2x0
  obtain ⟨n2x1, q2x1, c2x1⟩ := int_of p2x1
  subst q2x1
  exact law_DyeMatches c0 c1 (Nat.le_refl _) c2x0 c2x1 (fun _ => rfl)

theorem own : ownKnob Try.prog.godebug = none := by kernel_rfl
theorem laidOut : laidOutB Try.prog = true := by kernel_rfl
theorem lifted (os : Os) (started : os.Started) (D : Type) (enc : TypeId × Value → D) :
    ReturnsInHanded {} Try.checked os 6 .any (Rows.dyeMatchesSpec.pre6 enc Try.prog Try.f6 Rows.dyeMatchesRow.domain false) (Rows.dyeMatchesSpec.post enc Try.prog Try.f6 false true false false) :=
  lifted_of (C := Try.checked) (s := Rows.dyeMatchesSpec) (g := 20) (cts := [(false, [.sl [cInt, cInt, cInt, cInt]]), (false, [.sl [cInt, cInt, cInt, cInt]]), (true, [cInt, cInt])]) own started (by kernel_rfl) Try.func6 tblOk laidOut
    (ChangeSpec.witness6 (enc := enc) (C := Try.checked) false ⟨#[], #[.slice none 0 0, .slice none 0 0, .agg #[.int .i64 0, .int .i64 0]], []⟩ 8 (by kernel_rfl) (by kernel_rfl) (by kernel_rfl) (by kernel_rfl))
    rfl (by kernel_rfl) Try.underlying4 (by kernel_rfl) (by decide +kernel)
    (fun ds h => by
      have h : ds.length = 3 := h
      match ds, h with
      | [d0, d1, d2], _ => rfl)
    law

theorem proved : Rows.DyeMatchesSaid :=
  OpenClaim.holds_of_wide 6 Try.f6 rfl rfl rfl rfl rfl rfl rfl ⟨rfl, rfl, rfl, rfl, rfl⟩ rfl rfl rfl rfl rfl (by kernel_rfl) Try.func6 (by kernel_rfl)
    (of_decide_eq_true (by kernel_rfl)) (by unfold Func.isWrapper; first | (rw [if_pos (by decide +kernel)]; kernel_rfl) | (rw [if_neg (by decide +kernel)]; exact ⟨rfl, rfl⟩))
    (fun os started H enc _ => lifted os started H enc)
end Go.Proofs.Ytkmcdiajcnejiaa.dyeMatches
