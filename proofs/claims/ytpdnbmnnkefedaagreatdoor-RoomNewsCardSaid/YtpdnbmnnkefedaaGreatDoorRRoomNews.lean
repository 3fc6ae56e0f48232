/- 'RoomNews': the given statement: for every input the law returns true, and what it was given reads as before. No condition. -/
import Derived.Test.YtpdnbmnnkefedaaGreatDoorRnN
import Derived.Test.YtpdnbmnnkefedaaGreatDoorVmArg
import Derived.Test.YtpdnbmnnkefedaaGreatDoorVmFlat
import Derived.Test.YtpdnbmnnkefedaaGreatDoorTxRn
import Derived.Test.YtpdnbmnnkefedaaGreatDoorCards
import Derived.Test.YtpdnbmnnkefedaaGreatDoorTie
import Derived.ProofKit
import Derived.LaidMore
import Derived.OpenShut
import Derived.Stop.Joined
import Derived.SevenTiedAt
namespace Go.Proofs.YtpdnbmnnkefedaaGreatDoor.roomNews
open Go Go.Proofs.YtpdnbmnnkefedaaGreatDoor.Vm
set_option linter.unusedVariables false
set_option maxRecDepth 100000
theorem law (H : Hp) (us : List V) (dss : List (List CD)) (hH : HX glHp H) (h : RepAs H [(false, [.str]), (false, [.str])] us dss) : VCall tbl H.length 3 us H fun v _ => v = .bool true := by
  obtain ⟨v0, us0, _, _, e0, _, a0, h0⟩ := repas_cons h
  subst e0
  obtain ⟨v1, us1, _, _, e1, _, a1, h1⟩ := repas_cons h0
  subst e1
  have e := repas_nil h1
  subst e
  obtain ⟨_, b0⟩ := repa_one a0
  obtain ⟨n0, e0, c0⟩ := str_of b0
  subst e0
  obtain ⟨_, b1⟩ := repa_one a1
  obtain ⟨n1, e1, c1⟩ := str_of b1
  subst e1
  exact law_RoomNews hH (Nat.le_refl _) (fun _ => rfl)

theorem own : ownKnob Tryz.prog.godebug = none := by kernel_rfl
theorem laidOut : laidOutB Tryz.prog = true := by kernel_rfl
theorem lifted (os : Os) (started : os.Started) (D : Type) (enc : TypeId × Value → D) :
    ReturnsInHanded {} Tryz.checked os 3 .any (fun w args => (Rows.roomNewsSpec.pre enc Tryz.prog Tryz.f3 Rows.roomNewsRow.domain false w args ∧ laidMetH Tryz.prog laidT w) ∧ sizedMet enc Tryz.prog Tryz.f3 (OpenSpec.ofChange Rows.roomNewsSpec) false w args) (Rows.roomNewsSpec.post enc Tryz.prog Tryz.f3 false true false false) :=
  lifted_door (C := Tryz.checked) (s := Rows.roomNewsSpec) (g := 20) (cts := [(false, [.str]), (false, [.str])]) (X := fun w => laidMetH Tryz.prog laidT w) own started (by kernel_rfl) Tryz.func3 tblOk laidOut
    (ChangeSpec.witness_shaped (enc := enc) (C := Tryz.checked) (os := os) (X := fun w _ => laidMetH Tryz.prog laidT w) false (witT os) #[.string ⟨#[]⟩, .string ⟨#[]⟩] 8 rfl (witT_shaped os) (by kernel_rfl) (by kernel_rfl) (by kernel_rfl) (witT_met os _))
    (fun _ _ hh h => h.of_heap hh)
    rfl (by kernel_rfl) Tryz.underlying4 (by kernel_rfl) (by decide +kernel)
    (fun ds h => by
      have h : ds.length = 2 := h
      match ds, h with
      | [d0, d1], _ => rfl)
    law (fun W h => tx_start h)
theorem row_holds : Rows.RoomNewsSaid :=
  OpenClaim.holds_of_wide 3 Tryz.f3 rfl rfl rfl rfl rfl rfl rfl ⟨rfl, rfl, rfl, rfl, rfl⟩ rfl rfl rfl rfl rfl (by kernel_rfl) Tryz.func3 (by kernel_rfl)
    (of_decide_eq_true (by kernel_rfl)) (by unfold Func.isWrapper; first | (rw [if_pos (by decide +kernel)]; kernel_rfl) | (rw [if_neg (by decide +kernel)]; exact ⟨rfl, rfl⟩))
    (fun os started H enc _ => lifted os started H enc)
theorem proved : Rows.RoomNewsCardSaid :=
  Claim7.holds_tied_plain_at .later [] [.data, .data, .data, .data, .sentinel, .sentinel, .pinned] true (true, "d8ee236f38234cd62fe68ffcee79ac8e97cc0af3f1fa519a3a6f08a756ba1892") true
    row_holds (fun _ h => by cases h) (by kernel_rfl) (fun _ h => by cases h) roomNews_row_tie rfl ⟨rfl, rfl⟩ (by kernel_rfl) rfl
    (fun f fn hf hfn => by
      obtain rfl : f = 3 := Option.some.inj ((show Tryz.prog.funcNamed Rows.roomNewsRow.func = some 3 by kernel_rfl).symm.trans hf) |>.symm
      obtain rfl : fn = Tryz.f3 := (Option.some.inj (Tryz.func3.symm.trans hfn)).symm
      exact ⟨by kernel_rfl, fun j t ht => by
        have hall : (Tryz.f3.params.toList.all fun u => !Tryz.prog.wantsStandIn u) = true := by kernel_rfl
        have hm : t ∈ Tryz.f3.params.toList := by simpa using Array.mem_of_getElem? ht
        exact (show Tryz.prog.wantsStandIn t = false by simpa using List.all_eq_true.1 hall t hm)⟩)
    (by kernel_rfl)
end Go.Proofs.YtpdnbmnnkefedaaGreatDoor.roomNews
