/- 'CardOrders': the given statement: for every input the law returns true, and what it was given reads as before. No condition. -/
import Derived.Test.YtlkoedoannjojaaOrB
import Derived.Test.YtlkoedoannjojaaVmArg
import Derived.Test.YtlkoedoannjojaaRows
namespace Go.Proofs.Ytlkoedoannjojaa.cardOrders
open Go Go.Proofs.Ytlkoedoannjojaa.Vm
set_option linter.unusedVariables false
set_option maxRecDepth 100000
theorem law (H : Hp) (us : List V) (dss : List (List CD)) (h : RepAs H [(false, [.sl [cInt, cInt, cInt, cInt, cInt, .str]])] us dss) : VCall tbl H.length 6 us H fun v _ => v = .bool true := by
  obtain ⟨v0, us0, _, _, e0, _, a0, h0⟩ := repas_cons h
  subst e0
  have e := repas_nil h0
  subst e
  obtain ⟨_, b0⟩ := repa_one a0
  obtain ⟨l0, c0⟩ := ens_of b0
  exact law_CardOrders c0 (Nat.le_refl _) (fun _ => rfl)

theorem own : ownKnob Try.prog.godebug = none := by kernel_rfl
theorem laidOut : laidOutB Try.prog = true := by kernel_rfl
theorem lifted (os : Os) (started : os.Started) (D : Type) (enc : TypeId × Value → D) :
    ReturnsInHanded {} Try.checked os 6 .any (Rows.cardOrdersSpec.pre6 enc Try.prog Try.f6 Rows.cardOrdersRow.domain false) (Rows.cardOrdersSpec.post enc Try.prog Try.f6 false true false false) :=
  lifted_of (C := Try.checked) (s := Rows.cardOrdersSpec) (g := 20) (cts := [(false, [.sl [cInt, cInt, cInt, cInt, cInt, .str]])]) own started (by kernel_rfl) Try.func6 tblOk laidOut
    (ChangeSpec.witness6 (enc := enc) (C := Try.checked) false ⟨#[], #[.slice none 0 0], []⟩ 8 (by kernel_rfl) (by kernel_rfl) (by kernel_rfl) (by kernel_rfl))
    rfl (by kernel_rfl) Try.underlying4 (by kernel_rfl) (by decide +kernel)
    (fun ds h => by
      have h : ds.length = 1 := h
      match ds, h with
      | [d0], _ => rfl)
    law

theorem proved : Rows.CardOrdersSaid :=
  OpenClaim.holds_of_wide 6 Try.f6 rfl rfl rfl rfl rfl rfl rfl ⟨rfl, rfl, rfl, rfl, rfl⟩ rfl rfl rfl rfl rfl (by kernel_rfl) Try.func6 (by kernel_rfl)
    (of_decide_eq_true (by kernel_rfl)) (by unfold Func.isWrapper; first | (rw [if_pos (by decide +kernel)]; kernel_rfl) | (rw [if_neg (by decide +kernel)]; exact ⟨rfl, rfl⟩))
    (fun os started H enc _ => lifted os started H enc)
end Go.Proofs.Ytlkoedoannjojaa.cardOrders
