/- 'DyeHalves': the given statement: for every input the law returns true, and what it was given reads as before. No condition. -/
import Derived.Test.YtkmcdiajcnejiaaBlP
import Derived.Test.YtkmcdiajcnejiaaVmArg
import Derived.Test.YtkmcdiajcnejiaaRows
namespace Go.Proofs.Ytkmcdiajcnejiaa.dyeHalves
open Go Go.Proofs.Ytkmcdiajcnejiaa.Vm
set_option linter.unusedVariables false
set_option maxRecDepth 100000
theorem law (H : Hp) (us : List V) (dss : List (List CD)) (h : RepAs H [(false, [.sl [cInt, cInt, cInt, cInt]]), (false, [.sl [cInt, cInt, cInt, cInt]])] us dss) : VCall tbl H.length 7 us H fun v _ => v = .bool true := by
  obtain ⟨v0, us0, _, _, e0, _, a0, h0⟩ := repas_cons h
  subst e0
  obtain ⟨v1, us1, _, _, e1, _, a1, h1⟩ := repas_cons h0
  subst e1
  have e := repas_nil h1
  subst e
  obtain ⟨_, b0⟩ := repa_one a0
  obtain ⟨l0, c0⟩ := pts_of b0
  obtain ⟨_, b1⟩ := repa_one a1
  obtain ⟨l1, c1⟩ := pts_of b1
  exact law_DyeHalves c0 c1 (Nat.le_refl _) (fun _ => rfl)

theorem own : ownKnob Try.prog.godebug = none := by kernel_rfl
theorem laidOut : laidOutB Try.prog = true := by kernel_rfl
theorem lifted (os : Os) (started : os.Started) (D : Type) (enc : TypeId × Value → D) :
    ReturnsInHanded {} Try.checked os 7 .any (Rows.dyeHalvesSpec.pre6 enc Try.prog Try.f7 Rows.dyeHalvesRow.domain false) (Rows.dyeHalvesSpec.post enc Try.prog Try.f7 false true false false) :=
  lifted_of (C := Try.checked) (s := Rows.dyeHalvesSpec) (g := 20) (cts := [(false, [.sl [cInt, cInt, cInt, cInt]]), (false, [.sl [cInt, cInt, cInt, cInt]])]) own started (by kernel_rfl) Try.func7 tblOk laidOut
    (ChangeSpec.witness6 (enc := enc) (C := Try.checked) false ⟨#[], #[.slice none 0 0, .slice none 0 0], []⟩ 8 (by kernel_rfl) (by kernel_rfl) (by kernel_rfl) (by kernel_rfl))
    rfl (by kernel_rfl) Try.underlying4 (by kernel_rfl) (by decide +kernel)
    (fun ds h => by
      have h : ds.length = 2 := h
      match ds, h with
      | [d0, d1], _ => rfl)
    law

theorem proved : Rows.DyeHalvesSaid :=
  OpenClaim.holds_of_wide 7 Try.f7 rfl rfl rfl rfl rfl rfl rfl ⟨rfl, rfl, rfl, rfl, rfl⟩ rfl rfl rfl rfl rfl (by kernel_rfl) Try.func7 (by kernel_rfl)
    (of_decide_eq_true (by kernel_rfl)) (by unfold Func.isWrapper; first | (rw [if_pos (by decide +kernel)]; kernel_rfl) | (rw [if_neg (by decide +kernel)]; exact ⟨rfl, rfl⟩))
    (fun os started H enc _ => lifted os started H enc)
end Go.Proofs.Ytkmcdiajcnejiaa.dyeHalves
