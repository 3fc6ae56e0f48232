/- 'FlowRims': the given statement: for every input the law returns true, and what it was given reads as before. No condition. -/
import Derived.Test.YtjchpgkibhdoiaaRiE
import Derived.Test.YtjchpgkibhdoiaaVmArg
import Derived.Test.YtjchpgkibhdoiaaRows
namespace Go.Proofs.Ytjchpgkibhdoiaa.flowRims
open Go Go.Proofs.Ytjchpgkibhdoiaa.Vm
set_option linter.unusedVariables false
set_option maxRecDepth 100000
theorem law (H : Hp) (us : List V) (dss : List (List CD)) (h : RepAs H [(true, [cInt, cInt, cInts, .sl [cInt, cInt, cInt]]), (false, [.sl [cInt, cInt]])] us dss) : VCall tbl H.length 6 us H fun v _ => v = .bool true := by
  obtain ⟨v0, us0, _, _, e0, _, a0, h0⟩ := repas_cons h
  subst e0
  obtain ⟨v1, us1, _, _, e1, _, a1, h1⟩ := repas_cons h0
  subst e1
  have e := repas_nil h1
  subst e
  obtain ⟨ws0, e0, b0⟩ := repa_agg a0
  subst e0
  obtain ⟨l0, c0⟩ := fld_of b0
  obtain ⟨_, b1⟩ := repa_one a1
  obtain ⟨l1, c1⟩ := pls_of b1
  exact law_FlowRims c0 c1 (Nat.le_refl _) (fun _ => rfl)

theorem own : ownKnob Try.prog.godebug = none := by kernel_rfl
theorem laidOut : laidOutB Try.prog = true := by kernel_rfl
theorem lifted (os : Os) (started : os.Started) (D : Type) (enc : TypeId × Value → D) :
    ReturnsInHanded {} Try.checked os 6 .any (Rows.flowRimsSpec.pre6 enc Try.prog Try.f6 Rows.flowRimsRow.domain false) (Rows.flowRimsSpec.post enc Try.prog Try.f6 false true false false) :=
  lifted_of (C := Try.checked) (s := Rows.flowRimsSpec) (g := 20) (cts := [(true, [cInt, cInt, cInts, .sl [cInt, cInt, cInt]]), (false, [.sl [cInt, cInt]])]) own started (by kernel_rfl) Try.func6 tblOk laidOut
    (ChangeSpec.witness6 (enc := enc) (C := Try.checked) false ⟨#[], #[.agg #[.int .i64 0, .int .i64 0, .slice none 0 0, .slice none 0 0], .slice none 0 0], []⟩ 8 (by kernel_rfl) (by kernel_rfl) (by kernel_rfl) (by kernel_rfl))
    rfl (by kernel_rfl) Try.underlying4 (by kernel_rfl) (by decide +kernel)
    (fun ds h => by
      have h : ds.length = 2 := h
      match ds, h with
      | [d0, d1], _ => rfl)
    law

theorem proved : Rows.FlowRimsSaid :=
  OpenClaim.holds_of_wide 6 Try.f6 rfl rfl rfl rfl rfl rfl rfl ⟨rfl, rfl, rfl, rfl, rfl⟩ rfl rfl rfl rfl rfl (by kernel_rfl) Try.func6 (by kernel_rfl)
    (of_decide_eq_true (by kernel_rfl)) (by unfold Func.isWrapper; first | (rw [if_pos (by decide +kernel)]; kernel_rfl) | (rw [if_neg (by decide +kernel)]; exact ⟨rfl, rfl⟩))
    (fun os started H enc _ => lifted os started H enc)
end Go.Proofs.Ytjchpgkibhdoiaa.flowRims
