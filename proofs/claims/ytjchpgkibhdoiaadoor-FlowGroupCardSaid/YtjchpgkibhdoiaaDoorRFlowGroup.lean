/- 'FlowGroup': the given statement: for every input the law returns true, and what it was given reads as before. No condition. -/
import Derived.Test.YtjchpgkibhdoiaaDoorFmC
import Derived.Test.YtjchpgkibhdoiaaDoorVmArg
import Derived.Test.YtjchpgkibhdoiaaDoorVmFlat
import Derived.Test.YtjchpgkibhdoiaaDoorCards
import Derived.Test.YtjchpgkibhdoiaaDoorTie
import Derived.ProofKit
import Derived.LaidMore
import Derived.OpenShut
import Derived.Stop.Joined
import Derived.SevenTiedAt
namespace Go.Proofs.YtjchpgkibhdoiaaDoor.flowGroup
open Go Go.Proofs.YtjchpgkibhdoiaaDoor.Vm
set_option linter.unusedVariables false
set_option maxRecDepth 100000
theorem law (H : Hp) (us : List V) (dss : List (List CD)) (hH : HX glHp H) (h : RepAs H [(true, [cInt, cInt, cInts, .sl [cInt, cInt, cInt]]), (false, [cInt])] us dss) : VCall tbl H.length 6 us H fun v _ => v = .bool true := by
  obtain ⟨v0, us0, _, _, e0, _, a0, h0⟩ := repas_cons h
  subst e0
  obtain ⟨v1, us1, _, _, e1, _, a1, h1⟩ := repas_cons h0
  subst e1
  have e := repas_nil h1
  subst e
  obtain ⟨ws0, e0, b0⟩ := repa_agg a0
  subst e0
  obtain ⟨l0, c0⟩ := fld_of b0
  obtain ⟨_, b1⟩ := repa_one a1
  obtain ⟨n1, e1, c1⟩ := int_of b1
  subst e1
  exact law_FlowGroup c0 hH (Nat.le_refl _) c1 (fun _ => rfl)

def laid1 : List (String × DataW Unit) := [("wigmaker/flow.steps", Rows.laid_wigmaker_flow_steps)]
theorem own : ownKnob Tryd.prog.godebug = none := by kernel_rfl
theorem laidOut : laidOutB Tryd.prog = true := by kernel_rfl
theorem door_met (os : Os) (args : Array Value) : laidMetH Tryd.prog laid1 ((World.doorLaid Tryd.prog 400 os).forCall (fun _ _ => 0) ⟨#[], args, []⟩).memory := by
  rw [MakeChecks.laidMetH_plain _ _ _ (by kernel_rfl)]
  exact laidMet_of_run' 8 (by kernel_rfl) (by kernel_rfl)
theorem lifted (os : Os) (started : os.Started) (D : Type) (enc : TypeId × Value → D) :
    ReturnsInHanded {} Tryd.checked os 6 .any (fun w args => (Rows.flowGroupSpec.pre enc Tryd.prog Tryd.f6 Rows.flowGroupRow.domain false w args ∧ laidMetH Tryd.prog laid1 w) ∧ sizedMet enc Tryd.prog Tryd.f6 (OpenSpec.ofChange Rows.flowGroupSpec) false w args) (Rows.flowGroupSpec.post enc Tryd.prog Tryd.f6 false true false false) :=
  lifted_door (C := Tryd.checked) (s := Rows.flowGroupSpec) (g := 20) (cts := [(true, [cInt, cInt, cInts, .sl [cInt, cInt, cInt]]), (false, [cInt])]) (X := fun w => laidMetH Tryd.prog laid1 w) own started (by kernel_rfl) Tryd.func6 tblOk laidOut
    (ChangeSpec.witness_shaped (enc := enc) (C := Tryd.checked) (os := os) (X := fun w _ => laidMetH Tryd.prog laid1 w) false (World.doorLaid Tryd.prog 400 os) #[.agg #[.int .i64 0, .int .i64 0, .slice none 0 0, .slice none 0 0], .int .i64 0] 8 rfl (World.shaped_of_RefB (by kernel_rfl) (by kernel_rfl)) (by kernel_rfl) (by kernel_rfl) (by kernel_rfl) (door_met os _))
    (fun _ _ hh h => h.of_heap hh)
    rfl (by kernel_rfl) Tryd.underlying4 (by kernel_rfl) (by decide +kernel)
    (fun ds h => by
      have h : ds.length = 2 := h
      match ds, h with
      | [d0, d1], _ => rfl)
    law (fun W h => one_flat (t := 84) (fl := 8) rfl (by kernel_rfl) (by kernel_rfl) (by kernel_rfl) (by kernel_rfl) h)
theorem row_holds : Rows.FlowGroupSaid :=
  OpenClaim.holds_of_wide 6 Tryd.f6 rfl rfl rfl rfl rfl rfl rfl ⟨rfl, rfl, rfl, rfl, rfl⟩ rfl rfl rfl rfl rfl (by kernel_rfl) Tryd.func6 (by kernel_rfl)
    (of_decide_eq_true (by kernel_rfl)) (by unfold Func.isWrapper; first | (rw [if_pos (by decide +kernel)]; kernel_rfl) | (rw [if_neg (by decide +kernel)]; exact ⟨rfl, rfl⟩))
    (fun os started H enc _ => lifted os started H enc)
theorem proved : Rows.FlowGroupCardSaid :=
  Claim7.holds_tied_plain_at .later [] [.data] true (true, "6e37420ceb0a2ce97671e15fa9f33e92128767cd8efe177d07e69e431fbeb6b6") true
    row_holds (fun _ h => by cases h) (by kernel_rfl) (fun _ h => by cases h) flowGroup_row_tie rfl ⟨rfl, rfl⟩ (by kernel_rfl) rfl
    (fun f fn hf hfn => by
      obtain rfl : f = 6 := Option.some.inj ((show Tryd.prog.funcNamed Rows.flowGroupRow.func = some 6 by kernel_rfl).symm.trans hf) |>.symm
      obtain rfl : fn = Tryd.f6 := (Option.some.inj (Tryd.func6.symm.trans hfn)).symm
      exact ⟨by kernel_rfl, fun j t ht => by
        have hall : (Tryd.f6.params.toList.all fun u => !Tryd.prog.wantsStandIn u) = true := by kernel_rfl
        have hm : t ∈ Tryd.f6.params.toList := by simpa using Array.mem_of_getElem? ht
        exact (show Tryd.prog.wantsStandIn t = false by simpa using List.all_eq_true.1 hall t hm)⟩)
    (by kernel_rfl)
end Go.Proofs.YtjchpgkibhdoiaaDoor.flowGroup
