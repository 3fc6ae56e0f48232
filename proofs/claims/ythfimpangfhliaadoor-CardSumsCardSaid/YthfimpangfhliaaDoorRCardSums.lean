/- 'CardSums': the given statement: for every input the law returns true, and what it was given reads as before. No condition. -/
import Derived.Test.YthfimpangfhliaaDoorQCardSumsC
import Derived.Test.YthfimpangfhliaaDoorVmArg
import Derived.Test.YthfimpangfhliaaDoorVmFlat
import Derived.Test.YthfimpangfhliaaDoorCards
import Derived.Test.YthfimpangfhliaaDoorTie
import Derived.ProofKit
import Derived.LaidMore
import Derived.OpenShut
import Derived.Stop.Joined
import Derived.SevenTiedAt
namespace Go.Proofs.YthfimpangfhliaaDoor.cardSums
open Go Go.Proofs.YthfimpangfhliaaDoor.Vm
set_option linter.unusedVariables false
set_option maxRecDepth 100000
theorem law (H:Hp)(us:List V)(dss:List (List CD))(hH:HX glHp H)(h:RepAs H [(false,[.sl [cInt,cInt,cInt,cInt,cInt,.str]]),(false,[.sl [cInt,cInt,cInt,cInt,cInt,.str]])] us dss):VCall tbl H.length 3 us H fun v _=>v=.bool true:=by
  obtain ⟨v0,us0,_,_,e0,_,a0,h0⟩:=repas_cons h
  subst e0
  obtain ⟨v1,us1,_,_,e1,_,a1,h1⟩:=repas_cons h0
  subst e1
  have e:=repas_nil h1
  subst e
  obtain ⟨_,b0⟩:=repa_one a0
  obtain ⟨l0,c0⟩:=ens_of b0
  obtain ⟨_,b1⟩:=repa_one a1
  obtain ⟨l1,c1⟩:=ens_of b1
  exact law_CardSums c0 c1 hH (Nat.le_refl _) (fun _=>rfl)
theorem own:ownKnob Tryd.prog.godebug=none:=by kernel_rfl
theorem laidOut:laidOutB Tryd.prog=true:=by kernel_rfl
theorem lifted (os:Os)(started:os.Started)(D:Type)(enc:TypeId×Value→D) :
    ReturnsInHanded {} Tryd.checked os 3 .any (fun w args=>(Rows.cardSumsSpec.pre enc Tryd.prog Tryd.f3 Rows.cardSumsRow.domain false w args∧laidMetH Tryd.prog laidT w)∧sizedMet enc Tryd.prog Tryd.f3 (OpenSpec.ofChange Rows.cardSumsSpec) false w args) (Rows.cardSumsSpec.post enc Tryd.prog Tryd.f3 false true false false) :=
  lifted_door (C:=Tryd.checked) (s:=Rows.cardSumsSpec) (g:=20) (cts:=[(false,[.sl [cInt,cInt,cInt,cInt,cInt,.str]]),(false,[.sl [cInt,cInt,cInt,cInt,cInt,.str]])]) (X:=fun w=>laidMetH Tryd.prog laidT w) own started (by kernel_rfl) Tryd.func3 tblOk laidOut
    (ChangeSpec.witness_shaped (enc:=enc) (C:=Tryd.checked) (os:=os) (X:=fun w _=>laidMetH Tryd.prog laidT w) false (witT os) #[.slice none 0 0,.slice none 0 0] 8 rfl (witT_shaped os) (by kernel_rfl) (by kernel_rfl) (by kernel_rfl) (witT_met os _))
    (fun _ _ hh h=>h.of_heap hh)
    rfl (by kernel_rfl) Tryd.underlying4 (by kernel_rfl) (by decide +kernel)
    (fun ds h=>by
      have h:ds.length=2:=h
      match ds,h with
      | [d0,d1],_=>rfl)
    law (fun W h=>tx_start h)
theorem row_holds:Rows.CardSumsSaid :=
  OpenClaim.holds_of_wide 3 Tryd.f3 rfl rfl rfl rfl rfl rfl rfl ⟨rfl,rfl,rfl,rfl,rfl⟩ rfl rfl rfl rfl rfl (by kernel_rfl) Tryd.func3 (by kernel_rfl)
    (of_decide_eq_true (by kernel_rfl)) (by unfold Func.isWrapper;first | (rw [if_pos (by decide +kernel)];kernel_rfl) | (rw [if_neg (by decide +kernel)];exact ⟨rfl,rfl⟩))
    (fun os started H enc _=>lifted os started H enc)
theorem proved:Rows.CardSumsCardSaid :=
  Claim7.holds_tied_plain_at .later [] [.data,.data,.data,.sentinel,.sentinel] true (true, "082dacc9ff17303e01d00f751f25f80a6206b0503aebf53c09765489f4775c92") true
    row_holds (fun _ h=>by cases h) (by kernel_rfl) (fun _ h=>by cases h) cardSums_row_tie rfl ⟨rfl,rfl⟩ (by kernel_rfl) rfl
    (fun f fn hf hfn=>by
      obtain rfl:f=3:=Option.some.inj ((show Tryd.prog.funcNamed Rows.cardSumsRow.func=some 3 by kernel_rfl).symm.trans hf) |>.symm
      obtain rfl:fn=Tryd.f3:=(Option.some.inj (Tryd.func3.symm.trans hfn)).symm
      exact ⟨by kernel_rfl,fun j t ht=>by
        have hall:(Tryd.f3.params.toList.all fun u => !Tryd.prog.wantsStandIn u)=true:=by kernel_rfl
        have hm:t∈Tryd.f3.params.toList:=by simpa using Array.mem_of_getElem? ht
        exact (show Tryd.prog.wantsStandIn t=false by simpa using List.all_eq_true.1 hall t hm)⟩)
    (by kernel_rfl)
end Go.Proofs.YthfimpangfhliaaDoor.cardSums
