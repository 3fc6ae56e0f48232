/- 'TopCopies': the given statement: for every input the law returns true, and what it was given reads as before. No condition. -/
import Derived.Test.YtiilicnmcpjmkaaGreatDoorQTopCopiesC
import Derived.Test.YtiilicnmcpjmkaaGreatDoorVmArg
import Derived.Test.YtiilicnmcpjmkaaGreatDoorVmFlat
import Derived.Test.YtiilicnmcpjmkaaGreatDoorCards
import Derived.Test.YtiilicnmcpjmkaaGreatDoorTie
import Derived.ProofKit
import Derived.LaidMore
import Derived.OpenShut
import Derived.Stop.Joined
import Derived.SevenTiedAt
namespace Go.Proofs.YtiilicnmcpjmkaaGreatDoor.topCopies
open Go Go.Proofs.YtiilicnmcpjmkaaGreatDoor.Vm
set_option linter.unusedVariables false
set_option maxRecDepth 100000
theorem law (H:Hp)(us:List V)(dss:List (List CD))(hH:HX glHp H)(h:RepAs H [(false,[.sl [cInt,cInt,.str]]),(false,[cInt])] us dss):VCall tbl H.length 6 us H fun v _=>v=.bool true:=by
  obtain ⟨v0,us0,_,_,e0,_,a0,h0⟩:=repas_cons h
  subst e0
  obtain ⟨v1,us1,_,_,e1,_,a1,h1⟩:=repas_cons h0
  subst e1
  have e:=repas_nil h1
  subst e
  obtain ⟨_,b0⟩:=repa_one a0
  obtain ⟨l0,c0,m0⟩:=deeds_of b0
  obtain ⟨_,b1⟩:=repa_one a1
  obtain ⟨n1,e1,c1⟩:=int_of b1
  subst e1
  exact law_TopCopies c0 m0 hH (Nat.le_refl _) (fun _=>rfl)
theorem own:ownKnob Tryz.prog.godebug=none:=by kernel_rfl
theorem laidOut:laidOutB Tryz.prog=true:=by kernel_rfl
theorem lifted (os:Os)(started:os.Started)(D:Type)(enc:TypeId×Value→D) :
    ReturnsInHanded {} Tryz.checked os 6 .any (fun w args=>(Rows.topCopiesSpec.pre enc Tryz.prog Tryz.f6 Rows.topCopiesRow.domain false w args∧laidMetH Tryz.prog laidT w)∧sizedMet enc Tryz.prog Tryz.f6 (OpenSpec.ofChange Rows.topCopiesSpec) false w args) (Rows.topCopiesSpec.post enc Tryz.prog Tryz.f6 false true false false) :=
  lifted_door (C:=Tryz.checked) (s:=Rows.topCopiesSpec) (g:=20) (cts:=[(false,[.sl [cInt,cInt,.str]]),(false,[cInt])]) (X:=fun w=>laidMetH Tryz.prog laidT w) own started (by kernel_rfl) Tryz.func6 tblOk laidOut
    (ChangeSpec.witness_shaped (enc:=enc) (C:=Tryz.checked) (os:=os) (X:=fun w _=>laidMetH Tryz.prog laidT w) false (witT os) #[.slice none 0 0,.int .i64 0] 8 rfl (witT_shaped os) (by kernel_rfl) (by kernel_rfl) (by kernel_rfl) (witT_met os _))
    (fun _ _ hh h=>h.of_heap hh)
    rfl (by kernel_rfl) Tryz.underlying4 (by kernel_rfl) (by decide +kernel)
    (fun ds h=>by
      have h:ds.length=2:=h
      match ds,h with
      | [d0,d1],_=>rfl)
    law (fun W h=>tx_start h)
theorem row_holds:Rows.TopCopiesSaid :=
  OpenClaim.holds_of_wide 6 Tryz.f6 rfl rfl rfl rfl rfl rfl rfl ⟨rfl,rfl,rfl,rfl,rfl⟩ rfl rfl rfl rfl rfl (by kernel_rfl) Tryz.func6 (by kernel_rfl)
    (of_decide_eq_true (by kernel_rfl)) (by unfold Func.isWrapper;first | (rw [if_pos (by decide +kernel)];kernel_rfl) | (rw [if_neg (by decide +kernel)];exact ⟨rfl,rfl⟩))
    (fun os started H enc _=>lifted os started H enc)
theorem proved:Rows.TopCopiesCardSaid :=
  Claim7.holds_tied_plain_at .later [] [.data,.data,.data,.data,.handle,.sentinel,.sentinel,.pinned] true (true, "3ea7e2c8187f5e54af8b5e819af6539197fe5d0bc0932f28d5cbdcbaab266e2d") true
    row_holds (fun _ h=>by cases h) (by kernel_rfl) (fun _ h=>by cases h) topCopies_row_tie rfl ⟨rfl,rfl⟩ (by kernel_rfl) rfl
    (fun f fn hf hfn=>by
      obtain rfl:f=6:=Option.some.inj ((show Tryz.prog.funcNamed Rows.topCopiesRow.func=some 6 by kernel_rfl).symm.trans hf) |>.symm
      obtain rfl:fn=Tryz.f6:=(Option.some.inj (Tryz.func6.symm.trans hfn)).symm
      exact ⟨by kernel_rfl,fun j t ht=>by
        have hall:(Tryz.f6.params.toList.all fun u => !Tryz.prog.wantsStandIn u)=true:=by kernel_rfl
        have hm:t∈Tryz.f6.params.toList:=by simpa using Array.mem_of_getElem? ht
        exact (show Tryz.prog.wantsStandIn t=false by simpa using List.all_eq_true.1 hall t hm)⟩)
    (by kernel_rfl)
end Go.Proofs.YtiilicnmcpjmkaaGreatDoor.topCopies
