/- 'TopWhorls': the given statement: for every input the law returns true, and what it was given reads as before. No condition. -/
import Derived.Test.YtjchpgkibhdoiaaDoorWhB
import Derived.Test.YtjchpgkibhdoiaaDoorVmArg
import Derived.Test.YtjchpgkibhdoiaaDoorVmFlat
import Derived.Test.YtjchpgkibhdoiaaDoorCards
import Derived.Test.YtjchpgkibhdoiaaDoorTie
import Derived.ProofKit
import Derived.LaidMore
import Derived.OpenShut
import Derived.Stop.Joined
import Derived.SevenTiedAt
namespace Go.Proofs.YtjchpgkibhdoiaaDoor.topWhorls
open Go Go.Proofs.YtjchpgkibhdoiaaDoor.Vm
set_option linter.unusedVariables false
set_option maxRecDepth 100000
theorem law (H : Hp) (us : List V) (dss : List (List CD)) (hH : HX glHp H) (h : RepAs H [(true, [cInt, cInt, cInts, .sl [cInt, cInt, cInt]]), (false, [.sl [cInt, cInt]]), (true, [cInt, cInt, cInt, cInt])] us dss) : VCall tbl H.length 10 us H fun v _ => v = .bool true := by
  obtain ⟨v0, us0, _, _, e0, _, a0, h0⟩ := repas_cons h
  subst e0
  obtain ⟨v1, us1, _, _, e1, _, a1, h1⟩ := repas_cons h0
  subst e1
  obtain ⟨v2, us2, _, _, e2, _, a2, h2⟩ := repas_cons h1
  subst e2
  have e := repas_nil h2
  subst e
  obtain ⟨ws0, e0, b0⟩ := repa_agg a0
  subst e0
  obtain ⟨l0, c0⟩ := fld_of b0
  obtain ⟨_, b1⟩ := repa_one a1
  obtain ⟨l1, c1⟩ := pls_of b1
  obtain ⟨ws2, e2, b2x0⟩ := repa_agg a2
  subst e2
  obtain ⟨x2x0, xs2x0, _, _, e2x0, _, p2x0, b2x1⟩ := reps_cons b2x0
  subst e2x0
  obtain ⟨x2x1, xs2x1, _, _, e2x1, _, p2x1, b2x2⟩ := reps_cons b2x1
  subst e2x1
  obtain ⟨x2x2, xs2x2, _, _, e2x2, _, p2x2, b2x3⟩ := reps_cons b2x2
  subst e2x2
  obtain ⟨x2x3, xs2x3, _, _, e2x3, _, p2x3, b2x4⟩ := reps_cons b2x3
  subst e2x3
  have e2z := reps_nil b2x4
  subst e2z
  obtain ⟨n2x0, q2x0, c2x0⟩ := int_of p2x0
  subst q2x0
  obtain ⟨n2x1, q2x1, c2x1⟩ := int_of p2x1
  subst q2x1
  obtain ⟨n2x2, q2x2, c2x2⟩ := int_of p2x2
  subst q2x2
  obtain ⟨n2x3, q2x3, c2x3⟩ := int_of p2x3
  subst q2x3
  exact law_TopWhorls c0 c1 hH (Nat.le_refl _) c2x0 c2x1 c2x2 c2x3 (fun _ => rfl)

def laid1 : List (String × DataW Unit) := [("wigmaker/flow.steps", Rows.laid_wigmaker_flow_steps)]
theorem own : ownKnob Tryd.prog.godebug = none := by kernel_rfl
theorem laidOut : laidOutB Tryd.prog = true := by kernel_rfl
theorem door_met (os : Os) (args : Array Value) : laidMetH Tryd.prog laid1 ((World.doorLaid Tryd.prog 400 os).forCall (fun _ _ => 0) ⟨#[], args, []⟩).memory := by
  rw [MakeChecks.laidMetH_plain _ _ _ (by kernel_rfl)]
  exact laidMet_of_run' 8 (by kernel_rfl) (by kernel_rfl)
theorem lifted (os : Os) (started : os.Started) (D : Type) (enc : TypeId × Value → D) :
    ReturnsInHanded {} Tryd.checked os 10 .any (fun w args => (Rows.topWhorlsSpec.pre enc Tryd.prog Tryd.f10 Rows.topWhorlsRow.domain false w args ∧ laidMetH Tryd.prog laid1 w) ∧ sizedMet enc Tryd.prog Tryd.f10 (OpenSpec.ofChange Rows.topWhorlsSpec) false w args) (Rows.topWhorlsSpec.post enc Tryd.prog Tryd.f10 false true false false) :=
  lifted_door (C := Tryd.checked) (s := Rows.topWhorlsSpec) (g := 20) (cts := [(true, [cInt, cInt, cInts, .sl [cInt, cInt, cInt]]), (false, [.sl [cInt, cInt]]), (true, [cInt, cInt, cInt, cInt])]) (X := fun w => laidMetH Tryd.prog laid1 w) own started (by kernel_rfl) Tryd.func10 tblOk laidOut
    (ChangeSpec.witness_shaped (enc := enc) (C := Tryd.checked) (os := os) (X := fun w _ => laidMetH Tryd.prog laid1 w) false (World.doorLaid Tryd.prog 400 os) #[.agg #[.int .i64 0, .int .i64 0, .slice none 0 0, .slice none 0 0], .slice none 0 0, .agg #[.int .i64 0, .int .i64 0, .int .i64 0, .int .i64 0]] 8 rfl (World.shaped_of_RefB (by kernel_rfl) (by kernel_rfl)) (by kernel_rfl) (by kernel_rfl) (by kernel_rfl) (door_met os _))
    (fun _ _ hh h => h.of_heap hh)
    rfl (by kernel_rfl) Tryd.underlying4 (by kernel_rfl) (by decide +kernel)
    (fun ds h => by
      have h : ds.length = 3 := h
      match ds, h with
      | [d0, d1, d2], _ => rfl)
    law (fun W h => one_flat (t := 84) (fl := 8) rfl (by kernel_rfl) (by kernel_rfl) (by kernel_rfl) (by kernel_rfl) h)
theorem row_holds : Rows.TopWhorlsSaid :=
  OpenClaim.holds_of_wide 10 Tryd.f10 rfl rfl rfl rfl rfl rfl rfl ⟨rfl, rfl, rfl, rfl, rfl⟩ rfl rfl rfl rfl rfl (by kernel_rfl) Tryd.func10 (by kernel_rfl)
    (of_decide_eq_true (by kernel_rfl)) (by unfold Func.isWrapper; first | (rw [if_pos (by decide +kernel)]; kernel_rfl) | (rw [if_neg (by decide +kernel)]; exact ⟨rfl, rfl⟩))
    (fun os started H enc _ => lifted os started H enc)
theorem proved : Rows.TopWhorlsCardSaid :=
  Claim7.holds_tied_plain_at .later [] [.data] true (true, "6e37420ceb0a2ce97671e15fa9f33e92128767cd8efe177d07e69e431fbeb6b6") true
    row_holds (fun _ h => by cases h) (by kernel_rfl) (fun _ h => by cases h) topWhorls_row_tie rfl ⟨rfl, rfl⟩ (by kernel_rfl) rfl
    (fun f fn hf hfn => by
      obtain rfl : f = 10 := Option.some.inj ((show Tryd.prog.funcNamed Rows.topWhorlsRow.func = some 10 by kernel_rfl).symm.trans hf) |>.symm
      obtain rfl : fn = Tryd.f10 := (Option.some.inj (Tryd.func10.symm.trans hfn)).symm
      exact ⟨by kernel_rfl, fun j t ht => by
        have hall : (Tryd.f10.params.toList.all fun u => !Tryd.prog.wantsStandIn u) = true := by kernel_rfl
        have hm : t ∈ Tryd.f10.params.toList := by simpa using Array.mem_of_getElem? ht
        exact (show Tryd.prog.wantsStandIn t = false by simpa using List.all_eq_true.1 hall t hm)⟩)
    (by kernel_rfl)
end Go.Proofs.YtjchpgkibhdoiaaDoor.topWhorls
