/- 'TopCaps': the given statement: for every input the law returns true, and what it was given reads as before. No condition. -/
import Derived.Test.YtgjlhdggllakbaaGreatDoorQTopCapsD
import Derived.Test.YtgjlhdggllakbaaGreatDoorVmArg
import Derived.Test.YtgjlhdggllakbaaGreatDoorVmFlat
import Derived.Test.YtgjlhdggllakbaaGreatDoorCards
import Derived.Test.YtgjlhdggllakbaaGreatDoorTie
import Derived.ProofKit
import Derived.LaidMore
import Derived.OpenShut
import Derived.Stop.Joined
import Derived.SevenTiedAt
set_option linter.unusedVariables false
set_option linter.unusedSimpArgs false
set_option linter.unusedSectionVars false
namespace Go.Proofs.YtgjlhdggllakbaaGreatDoor.topCaps
open Go Go.Proofs.YtgjlhdggllakbaaGreatDoor.Vm
set_option maxRecDepth 100000
theorem law (H:Hp)(us:List V)(dss:List (List CD))(hH:HX dQ H)(h:RepAs H [(true,[.sl [qw,qw],.sl [cZ,cZ,cZ,cZ],cZ]),(false,[.sl [cZ,cZ,cZ,cZ,cZ,cZ,cZ,cZ,cZ,cZ]])] us dss):aF tbl H.length 4 us H fun v _=>v=.bool true:=by
 obtain ⟨v0,us0,_,_,e0,_,a0,h0⟩:=pU h
 subst e0
 obtain ⟨v1,us1,_,_,e1,_,a1,h1⟩:=pU h0
 subst e1
 have e:=GC h1
 subst e
 obtain ⟨ws0,e0,b0⟩:=K7 a0
 subst e0
 obtain ⟨l0,c0⟩:=Qe b0
 obtain ⟨_,b1⟩:=Lr a1
 obtain ⟨l1,c1⟩:=MB b1
 exact yi c0 c1 hH (Nat.le_refl _) (fun _=>rfl)
theorem own:ownKnob Tryz.prog.godebug=none:=by kernel_rfl
theorem laidOut:laidOutB Tryz.prog=true:=by kernel_rfl
theorem lifted (os:Os)(started:os.Started)(D:Type)(enc:TypeId×Value->D) :
 ReturnsInHanded {} Tryz.checked os 4 .any (fun w args=>(Rows.topCapsSpec.pre enc Tryz.prog Tryz.f4 Rows.topCapsRow.domain false w args/\laidMetH Tryz.prog tc w)/\sizedMet enc Tryz.prog Tryz.f4 (OpenSpec.ofChange Rows.topCapsSpec) false w args) (Rows.topCapsSpec.post enc Tryz.prog Tryz.f4 false true false false) :=
 zg (C:=Tryz.checked) (s:=Rows.topCapsSpec) (g:=20) (cts:=[(true,[.sl [qw,qw],.sl [cZ,cZ,cZ,cZ],cZ]),(false,[.sl [cZ,cZ,cZ,cZ,cZ,cZ,cZ,cZ,cZ,cZ]])]) (X:=fun w=>laidMetH Tryz.prog tc w) own started (by kernel_rfl) Tryz.func4 tblOk laidOut
  (ChangeSpec.witness_shaped (enc:=enc) (C:=Tryz.checked) (os:=os) (X:=fun w _=>laidMetH Tryz.prog tc w) false (Q2 os) #[.agg #[.slice none 0 0,.slice none 0 0,.int .i64 0],.slice none 0 0] 8 rfl (xR os) (by kernel_rfl) (by kernel_rfl) (by kernel_rfl) (Lu os _))
  (fun _ _ hh h=>h.of_heap hh)
  rfl (by kernel_rfl) Tryz.underlying4 (by kernel_rfl) (by decide +kernel)
  (fun ds h=>by
   have h:ds.length=2:=h
   match ds,h with
   | [d0,d1],_=>rfl)
  law (fun W h=>KF h)
theorem row_holds:Rows.TopCapsSaid :=
 OpenClaim.holds_of_wide 4 Tryz.f4 rfl rfl rfl rfl rfl rfl rfl ⟨rfl,rfl,rfl,rfl,rfl⟩ rfl rfl rfl rfl rfl (by kernel_rfl) Tryz.func4 (by kernel_rfl)
  (of_decide_eq_true (by kernel_rfl)) (by unfold Func.isWrapper;first | (rw [if_pos (by decide +kernel)];kernel_rfl) | (rw [if_neg (by decide +kernel)];exact ⟨rfl,rfl⟩))
  (fun os started H enc _=>lifted os started H enc)
theorem proved:Rows.TopCapsCardSaid :=
 Claim7.holds_tied_plain_at .later [] [.data,.data,.data,.data,.sentinel,.sentinel,.pinned] true (true, "bfb231ca7c054b1bd11d09350641cd82f4be9a0d7568085af6f9f06bde9299b5") true
  row_holds (fun _ h=>by cases h) (by kernel_rfl) (fun _ h=>by cases h) topCaps_row_tie rfl ⟨rfl,rfl⟩ (by kernel_rfl) rfl
  (fun f fn hf hfn=>by
   obtain rfl:f=4:=Option.some.inj ((show Tryz.prog.funcNamed Rows.topCapsRow.func=some 4 by kernel_rfl).symm.trans hf) |>.symm
   obtain rfl:fn=Tryz.f4:=(Option.some.inj (Tryz.func4.symm.trans hfn)).symm
   exact ⟨by kernel_rfl,fun j t ht=>by
    have hall:(Tryz.f4.params.toList.all fun u => !Tryz.prog.wantsStandIn u)=true:=by kernel_rfl
    have hm:t∈Tryz.f4.params.toList:=by simpa using Array.mem_of_getElem? ht
    exact (show Tryz.prog.wantsStandIn t=false by simpa using List.all_eq_true.1 hall t hm)⟩)
  (by kernel_rfl)
end Go.Proofs.YtgjlhdggllakbaaGreatDoor.topCaps
