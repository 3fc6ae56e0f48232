/- 'PlaitMatrices': the given statement: for every input the law returns true, and what it was given reads as before. No condition. -/
import Derived.Test.YtalejadhccgckaaDoorPmA
import Derived.Test.YtalejadhccgckaaDoorVmArg
import Derived.Test.YtalejadhccgckaaDoorVmFlat
import Derived.Test.YtalejadhccgckaaDoorCards
import Derived.Test.YtalejadhccgckaaDoorTie
import Derived.ProofKit
import Derived.LaidMore
import Derived.OpenShut
import Derived.Stop.Joined
import Derived.SevenTiedAt
namespace Go.Proofs.YtalejadhccgckaaDoor.plaitMatrices
open Go Go.Proofs.YtalejadhccgckaaDoor.Vm
set_option linter.unusedVariables false
set_option maxRecDepth 100000
theorem law (H : Hp) (us : List V) (dss : List (List CD)) (hH : HX glHp H) (h : RepAs H [(false, [.str]), (false, [.str])] us dss) : VCall tbl H.length 7 us H fun v _ => v = .bool true := by
  obtain ⟨v0, us0, _, _, e0, _, a0, h0⟩ := repas_cons h
  subst e0
  obtain ⟨v1, us1, _, _, e1, _, a1, h1⟩ := repas_cons h0
  subst e1
  have e := repas_nil h1
  subst e
  obtain ⟨_, b0⟩ := repa_one a0
  obtain ⟨n0, e0, c0⟩ := str_of b0
  subst e0
  obtain ⟨_, b1⟩ := repa_one a1
  obtain ⟨n1, e1, c1⟩ := str_of b1
  subst e1
  exact law_PlaitMatrices hH (Nat.le_refl _) c0 c1 (fun _ => rfl)

def laid1 : List (String × DataW Unit) := [("unicode/utf8.acceptRanges", Rows.laid_unicode_utf8_acceptRanges), ("unicode/utf8.first", Rows.laid_unicode_utf8_first)]
theorem own : ownKnob Tryd.prog.godebug = none := by kernel_rfl
theorem laidOut : laidOutB Tryd.prog = true := by kernel_rfl
theorem door_met (os : Os) (args : Array Value) : laidMetH Tryd.prog laid1 ((wit os).forCall (fun _ _ => 0) ⟨#[], args, []⟩).memory := by
  rw [MakeChecks.laidMetH_plain _ _ _ (by kernel_rfl)]
  exact laidMet_of_run' 8 (by kernel_rfl) (by kernel_rfl)
theorem lifted (os : Os) (started : os.Started) (D : Type) (enc : TypeId × Value → D) :
    ReturnsInHanded {} Tryd.checked os 7 .any (fun w args => (Rows.plaitMatricesSpec.pre enc Tryd.prog Tryd.f7 Rows.plaitMatricesRow.domain false w args ∧ laidMetH Tryd.prog laid1 w) ∧ sizedMet enc Tryd.prog Tryd.f7 (OpenSpec.ofChange Rows.plaitMatricesSpec) false w args) (Rows.plaitMatricesSpec.post enc Tryd.prog Tryd.f7 false true false false) :=
  lifted_door (C := Tryd.checked) (s := Rows.plaitMatricesSpec) (g := 20) (cts := [(false, [.str]), (false, [.str])]) (X := fun w => laidMetH Tryd.prog laid1 w) own started (by kernel_rfl) Tryd.func7 tblOk laidOut
    (ChangeSpec.witness_shaped (enc := enc) (C := Tryd.checked) (os := os) (X := fun w _ => laidMetH Tryd.prog laid1 w) false (wit os) #[.string ⟨#[]⟩, .string ⟨#[]⟩] 8 rfl (World.shaped_of_RefB (by kernel_rfl) (by kernel_rfl)) (by kernel_rfl) (by kernel_rfl) (by kernel_rfl) (door_met os _))
    (fun _ _ hh h => h.of_heap hh)
    rfl (by kernel_rfl) Tryd.underlying4 (by kernel_rfl) (by decide +kernel)
    (fun ds h => by
      have h : ds.length = 2 := h
      match ds, h with
      | [d0, d1], _ => rfl)
    law (fun W h => two_flat (t1 := 119) (t2 := 116) (fl := 8) rfl (by kernel_rfl) (by kernel_rfl) (by kernel_rfl) (by kernel_rfl) (by kernel_rfl) (by kernel_rfl) (by kernel_rfl) h)
theorem row_holds : Rows.PlaitMatricesSaid :=
  OpenClaim.holds_of_wide 7 Tryd.f7 rfl rfl rfl rfl rfl rfl rfl ⟨rfl, rfl, rfl, rfl, rfl⟩ rfl rfl rfl rfl rfl (by kernel_rfl) Tryd.func7 (by kernel_rfl)
    (of_decide_eq_true (by kernel_rfl)) (by unfold Func.isWrapper; first | (rw [if_pos (by decide +kernel)]; kernel_rfl) | (rw [if_neg (by decide +kernel)]; exact ⟨rfl, rfl⟩))
    (fun os started H enc _ => lifted os started H enc)
theorem proved : Rows.PlaitMatricesCardSaid :=
  Claim7.holds_tied_plain_at .later [] [.data, .pinned] true (true, "91f5b63c173ee4314818051a73949b4d5927a115924aad81e8a32cade6823432") false
    row_holds (fun _ h => by cases h) (by kernel_rfl) (fun _ h => by cases h) plaitMatrices_row_tie rfl ⟨rfl, rfl⟩ (by kernel_rfl) rfl
    (fun f fn hf hfn => by
      obtain rfl : f = 7 := Option.some.inj ((show Tryd.prog.funcNamed Rows.plaitMatricesRow.func = some 7 by kernel_rfl).symm.trans hf) |>.symm
      obtain rfl : fn = Tryd.f7 := (Option.some.inj (Tryd.func7.symm.trans hfn)).symm
      exact ⟨by kernel_rfl, fun j t ht => by
        have hall : (Tryd.f7.params.toList.all fun u => !Tryd.prog.wantsStandIn u) = true := by kernel_rfl
        have hm : t ∈ Tryd.f7.params.toList := by simpa using Array.mem_of_getElem? ht
        exact (show Tryd.prog.wantsStandIn t = false by simpa using List.all_eq_true.1 hall t hm)⟩)
    (by kernel_rfl)
end Go.Proofs.YtalejadhccgckaaDoor.plaitMatrices
