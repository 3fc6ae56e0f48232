/- 'PlaitTurns': the given statement: for every input the law returns true, and what it was given reads as before. No condition. -/
import Derived.Test.YtalejadhccgckaaDoorPmC
import Derived.Test.YtalejadhccgckaaDoorVmArg
import Derived.Test.YtalejadhccgckaaDoorVmFlat
import Derived.Test.YtalejadhccgckaaDoorCards
import Derived.Test.YtalejadhccgckaaDoorTie
import Derived.ProofKit
import Derived.LaidMore
import Derived.OpenShut
import Derived.Stop.Joined
import Derived.SevenTiedAt
namespace Go.Proofs.YtalejadhccgckaaDoor.plaitTurns
open Go Go.Proofs.YtalejadhccgckaaDoor.Vm
set_option linter.unusedVariables false
set_option maxRecDepth 100000
theorem law (H : Hp) (us : List V) (dss : List (List CD)) (hH : HX glHp H) (h : RepAs H [(false, [.str])] us dss) : VCall tbl H.length 5 us H fun v _ => v = .bool true := by
  obtain ⟨v0, us0, _, _, e0, _, a0, h0⟩ := repas_cons h
  subst e0
  have e := repas_nil h0
  subst e
  obtain ⟨_, b0⟩ := repa_one a0
  obtain ⟨n0, e0, c0⟩ := str_of b0
  subst e0
  exact law_PlaitTurns hH (Nat.le_refl _) c0 (fun _ => rfl)

def laid1 : List (String × DataW Unit) := [("unicode/utf8.acceptRanges", Rows.laid_unicode_utf8_acceptRanges), ("unicode/utf8.first", Rows.laid_unicode_utf8_first)]
theorem own : ownKnob Tryd.prog.godebug = none := by kernel_rfl
theorem laidOut : laidOutB Tryd.prog = true := by kernel_rfl
theorem door_met (os : Os) (args : Array Value) : laidMetH Tryd.prog laid1 ((wit os).forCall (fun _ _ => 0) ⟨#[], args, []⟩).memory := by
  rw [MakeChecks.laidMetH_plain _ _ _ (by kernel_rfl)]
  exact laidMet_of_run' 8 (by kernel_rfl) (by kernel_rfl)
theorem lifted (os : Os) (started : os.Started) (D : Type) (enc : TypeId × Value → D) :
    ReturnsInHanded {} Tryd.checked os 5 .any (fun w args => (Rows.plaitTurnsSpec.pre enc Tryd.prog Tryd.f5 Rows.plaitTurnsRow.domain false w args ∧ laidMetH Tryd.prog laid1 w) ∧ sizedMet enc Tryd.prog Tryd.f5 (OpenSpec.ofChange Rows.plaitTurnsSpec) false w args) (Rows.plaitTurnsSpec.post enc Tryd.prog Tryd.f5 false true false false) :=
  lifted_door (C := Tryd.checked) (s := Rows.plaitTurnsSpec) (g := 20) (cts := [(false, [.str])]) (X := fun w => laidMetH Tryd.prog laid1 w) own started (by kernel_rfl) Tryd.func5 tblOk laidOut
    (ChangeSpec.witness_shaped (enc := enc) (C := Tryd.checked) (os := os) (X := fun w _ => laidMetH Tryd.prog laid1 w) false (wit os) #[.string ⟨#[]⟩] 8 rfl (World.shaped_of_RefB (by kernel_rfl) (by kernel_rfl)) (by kernel_rfl) (by kernel_rfl) (by kernel_rfl) (door_met os _))
    (fun _ _ hh h => h.of_heap hh)
    rfl (by kernel_rfl) Tryd.underlying4 (by kernel_rfl) (by decide +kernel)
    (fun ds h => by
      have h : ds.length = 1 := h
      match ds, h with
      | [d0], _ => rfl)
    law (fun W h => two_flat (t1 := 119) (t2 := 116) (fl := 8) rfl (by kernel_rfl) (by kernel_rfl) (by kernel_rfl) (by kernel_rfl) (by kernel_rfl) (by kernel_rfl) (by kernel_rfl) h)
theorem row_holds : Rows.PlaitTurnsSaid :=
  OpenClaim.holds_of_wide 5 Tryd.f5 rfl rfl rfl rfl rfl rfl rfl ⟨rfl, rfl, rfl, rfl, rfl⟩ rfl rfl rfl rfl rfl (by kernel_rfl) Tryd.func5 (by kernel_rfl)
    (of_decide_eq_true (by kernel_rfl)) (by unfold Func.isWrapper; first | (rw [if_pos (by decide +kernel)]; kernel_rfl) | (rw [if_neg (by decide +kernel)]; exact ⟨rfl, rfl⟩))
    (fun os started H enc _ => lifted os started H enc)
theorem proved : Rows.PlaitTurnsCardSaid :=
  Claim7.holds_tied_plain_at .later [] [.data, .pinned] true (true, "91f5b63c173ee4314818051a73949b4d5927a115924aad81e8a32cade6823432") false
    row_holds (fun _ h => by cases h) (by kernel_rfl) (fun _ h => by cases h) plaitTurns_row_tie rfl ⟨rfl, rfl⟩ (by kernel_rfl) rfl
    (fun f fn hf hfn => by
      obtain rfl : f = 5 := Option.some.inj ((show Tryd.prog.funcNamed Rows.plaitTurnsRow.func = some 5 by kernel_rfl).symm.trans hf) |>.symm
      obtain rfl : fn = Tryd.f5 := (Option.some.inj (Tryd.func5.symm.trans hfn)).symm
      exact ⟨by kernel_rfl, fun j t ht => by
        have hall : (Tryd.f5.params.toList.all fun u => !Tryd.prog.wantsStandIn u) = true := by kernel_rfl
        have hm : t ∈ Tryd.f5.params.toList := by simpa using Array.mem_of_getElem? ht
        exact (show Tryd.prog.wantsStandIn t = false by simpa using List.all_eq_true.1 hall t hm)⟩)
    (by kernel_rfl)
end Go.Proofs.YtalejadhccgckaaDoor.plaitTurns
