/- 'FlowTexts': the given statement: for every input the law returns true, and what it was given reads as before. No condition. -/
import Derived.Test.YtgjlhdggllakbaaDoorTmD
import Derived.Test.YtgjlhdggllakbaaDoorVmArg
import Derived.Test.YtgjlhdggllakbaaDoorVmFlat
import Derived.Test.YtgjlhdggllakbaaDoorTxR
import Derived.Test.YtgjlhdggllakbaaDoorCards
import Derived.Test.YtgjlhdggllakbaaDoorTie
import Derived.ProofKit
import Derived.LaidMore
import Derived.OpenShut
import Derived.Stop.Joined
import Derived.SevenTiedAt
namespace Go.Proofs.YtgjlhdggllakbaaDoor.flowTexts
open Go Go.Proofs.YtgjlhdggllakbaaDoor.Vm
set_option linter.unusedVariables false
set_option maxRecDepth 100000
theorem law (H : Hp) (us : List V) (dss : List (List CD)) (hH : HX glHp H) (h : RepAs H [(true, [cInt, cInt, cInts, .sl [cInt, cInt, cInt]]), (false, [.str])] us dss) : VCall tbl H.length 4 us H fun v _ => v = .bool true := by
  obtain ⟨v0, us0, _, _, e0, _, a0, h0⟩ := repas_cons h
  subst e0
  obtain ⟨v1, us1, _, _, e1, _, a1, h1⟩ := repas_cons h0
  subst e1
  have e := repas_nil h1
  subst e
  obtain ⟨ws0, e0, b0⟩ := repa_agg a0
  subst e0
  obtain ⟨l0, c0⟩ := fld_of b0
  obtain ⟨_, b1⟩ := repa_one a1
  obtain ⟨n1, e1, c1⟩ := str_of b1
  subst e1
  exact law_FlowTexts c0 hH (Nat.le_refl _) c1 (fun _ => rfl)

theorem own : ownKnob Tryd.prog.godebug = none := by kernel_rfl
theorem laidOut : laidOutB Tryd.prog = true := by kernel_rfl
theorem lifted (os : Os) (started : os.Started) (D : Type) (enc : TypeId × Value → D) :
    ReturnsInHanded {} Tryd.checked os 4 .any (fun w args => (Rows.flowTextsSpec.pre enc Tryd.prog Tryd.f4 Rows.flowTextsRow.domain false w args ∧ laidMetH Tryd.prog laidT w) ∧ sizedMet enc Tryd.prog Tryd.f4 (OpenSpec.ofChange Rows.flowTextsSpec) false w args) (Rows.flowTextsSpec.post enc Tryd.prog Tryd.f4 false true false false) :=
  lifted_door (C := Tryd.checked) (s := Rows.flowTextsSpec) (g := 20) (cts := [(true, [cInt, cInt, cInts, .sl [cInt, cInt, cInt]]), (false, [.str])]) (X := fun w => laidMetH Tryd.prog laidT w) own started (by kernel_rfl) Tryd.func4 tblOk laidOut
    (ChangeSpec.witness_shaped (enc := enc) (C := Tryd.checked) (os := os) (X := fun w _ => laidMetH Tryd.prog laidT w) false (witT os) #[.agg #[.int .i64 0, .int .i64 0, .slice none 0 0, .slice none 0 0], .string ⟨#[]⟩] 8 rfl (witT_shaped os) (by kernel_rfl) (by kernel_rfl) (by kernel_rfl) (witT_met os _))
    (fun _ _ hh h => h.of_heap hh)
    rfl (by kernel_rfl) Tryd.underlying4 (by kernel_rfl) (by decide +kernel)
    (fun ds h => by
      have h : ds.length = 2 := h
      match ds, h with
      | [d0, d1], _ => rfl)
    law (fun W h => tx_start h)
theorem row_holds : Rows.FlowTextsSaid :=
  OpenClaim.holds_of_wide 4 Tryd.f4 rfl rfl rfl rfl rfl rfl rfl ⟨rfl, rfl, rfl, rfl, rfl⟩ rfl rfl rfl rfl rfl (by kernel_rfl) Tryd.func4 (by kernel_rfl)
    (of_decide_eq_true (by kernel_rfl)) (by unfold Func.isWrapper; first | (rw [if_pos (by decide +kernel)]; kernel_rfl) | (rw [if_neg (by decide +kernel)]; exact ⟨rfl, rfl⟩))
    (fun os started H enc _ => lifted os started H enc)
theorem proved : Rows.FlowTextsCardSaid :=
  Claim7.holds_tied_plain_at .later [] [.data, .data, .data, .data, .sentinel, .sentinel, .pinned] true (true, "ae383dce3959c8f50166de20c15cfb2a2fd7a864f60882b4a85090a9b3c2c529") true
    row_holds (fun _ h => by cases h) (by kernel_rfl) (fun _ h => by cases h) flowTexts_row_tie rfl ⟨rfl, rfl⟩ (by kernel_rfl) rfl
    (fun f fn hf hfn => by
      obtain rfl : f = 4 := Option.some.inj ((show Tryd.prog.funcNamed Rows.flowTextsRow.func = some 4 by kernel_rfl).symm.trans hf) |>.symm
      obtain rfl : fn = Tryd.f4 := (Option.some.inj (Tryd.func4.symm.trans hfn)).symm
      exact ⟨by kernel_rfl, fun j t ht => by
        have hall : (Tryd.f4.params.toList.all fun u => !Tryd.prog.wantsStandIn u) = true := by kernel_rfl
        have hm : t ∈ Tryd.f4.params.toList := by simpa using Array.mem_of_getElem? ht
        exact (show Tryd.prog.wantsStandIn t = false by simpa using List.all_eq_true.1 hall t hm)⟩)
    (by kernel_rfl)
end Go.Proofs.YtgjlhdggllakbaaDoor.flowTexts
