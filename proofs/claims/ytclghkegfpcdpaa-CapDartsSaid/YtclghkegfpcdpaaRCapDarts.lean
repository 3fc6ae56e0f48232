/- 'CapDarts': the given statement: for every input the law returns true, and what it was given reads as before. No condition. -/
import Derived.Test.YtclghkegfpcdpaaQCapDartsD
import Derived.Test.YtclghkegfpcdpaaVmArg
import Derived.Test.YtclghkegfpcdpaaRows
namespace Go.Proofs.Ytclghkegfpcdpaa.capDarts
open Go Go.Proofs.Ytclghkegfpcdpaa.Vm
set_option linter.unusedVariables false
set_option maxRecDepth 100000
theorem law (H:Hp)(us:List V)(dss:List (List CD))(h:RepAs H [(true,[.sl [cInts,cInts],.sl [cInt,cInt,cInt,cInt],cInt]),(false,[cInt]),(false,[cInt])] us dss):VCall tbl H.length 10 us H fun v _=>v=.bool true:=by
  obtain ⟨v0,us0,_,_,e0,_,a0,h0⟩:=repas_cons h
  subst e0
  obtain ⟨v1,us1,_,_,e1,_,a1,h1⟩:=repas_cons h0
  subst e1
  obtain ⟨v2,us2,_,_,e2,_,a2,h2⟩:=repas_cons h1
  subst e2
  have e:=repas_nil h2
  subst e
  obtain ⟨ws0,e0,b0⟩:=repa_agg a0
  subst e0
  obtain ⟨l0,c0⟩:=cap_of b0
  obtain ⟨_,b1⟩:=repa_one a1
  obtain ⟨n1,e1,c1⟩:=int_of b1
  subst e1
  obtain ⟨_,b2⟩:=repa_one a2
  obtain ⟨n2,e2,c2⟩:=int_of b2
  subst e2
  exact law_CapDarts c0 (Nat.le_refl _) c1 c2 (fun _=>rfl)
theorem own:ownKnob Try.prog.godebug=none:=by kernel_rfl
theorem laidOut:laidOutB Try.prog=true:=by kernel_rfl
theorem lifted (os:Os)(started:os.Started)(D:Type)(enc:TypeId×Value→D) :
    ReturnsInHanded {} Try.checked os 10 .any (Rows.capDartsSpec.pre6 enc Try.prog Try.f10 Rows.capDartsRow.domain false) (Rows.capDartsSpec.post enc Try.prog Try.f10 false true false false) :=
  lifted_of (C:=Try.checked) (s:=Rows.capDartsSpec) (g:=20) (cts:=[(true,[.sl [cInts,cInts],.sl [cInt,cInt,cInt,cInt],cInt]),(false,[cInt]),(false,[cInt])]) own started (by kernel_rfl) Try.func10 tblOk laidOut
    (ChangeSpec.witness6 (enc:=enc) (C:=Try.checked) false ⟨#[],#[.agg #[.slice none 0 0,.slice none 0 0,.int .i64 0],.int .i64 0,.int .i64 0],[]⟩ 8 (by kernel_rfl) (by kernel_rfl) (by kernel_rfl) (by kernel_rfl))
    rfl (by kernel_rfl) Try.underlying4 (by kernel_rfl) (by decide +kernel)
    (fun ds h=>by
      have h:ds.length=3:=h
      match ds,h with
      | [d0,d1,d2],_=>rfl)
    law
theorem proved:Rows.CapDartsSaid :=
  OpenClaim.holds_of_wide 10 Try.f10 rfl rfl rfl rfl rfl rfl rfl ⟨rfl,rfl,rfl,rfl,rfl⟩ rfl rfl rfl rfl rfl (by kernel_rfl) Try.func10 (by kernel_rfl)
    (of_decide_eq_true (by kernel_rfl)) (by unfold Func.isWrapper;first | (rw [if_pos (by decide +kernel)];kernel_rfl) | (rw [if_neg (by decide +kernel)];exact ⟨rfl,rfl⟩))
    (fun os started H enc _=>lifted os started H enc)
end Go.Proofs.Ytclghkegfpcdpaa.capDarts
