/- 'DyeMore': the given statement: for every input the law returns true, and what it was given reads as before. No condition. -/
import Derived.Test.YtkmcdiajcnejiaaQDyeMoreA
import Derived.Test.YtkmcdiajcnejiaaVmArg
import Derived.Test.YtkmcdiajcnejiaaRows
namespace Go.Proofs.Ytkmcdiajcnejiaa.dyeMore
open Go Go.Proofs.Ytkmcdiajcnejiaa.Vm
set_option linter.unusedVariables false
set_option maxRecDepth 100000
theorem law (H:Hp)(us:List V)(dss:List (List CD))(h:RepAs H [(true,[.sl [cInt,cInt,cInt,cInt],.sl [cInt,cInt,cInt,cInt,cInt]]),(true,[cInt,cInt,cInt,cInt])] us dss):VCall tbl H.length 8 us H fun v _=>v=.bool true:=by
  obtain ⟨v0,us0,_,_,e0,_,a0,h0⟩:=repas_cons h
  subst e0
  obtain ⟨v1,us1,_,_,e1,_,a1,h1⟩:=repas_cons h0
  subst e1
  have e:=repas_nil h1
  subst e
  obtain ⟨ws0,e0,b0⟩:=repa_agg a0
  subst e0
  obtain ⟨l0,c0⟩:=trd_of b0
  obtain ⟨ws1,e1,b1x0⟩:=repa_agg a1
  subst e1
  obtain ⟨x1x0,xs1x0,_,_,e1x0,_,p1x0,b1x1⟩:=reps_cons b1x0
  subst e1x0
  obtain ⟨x1x1,xs1x1,_,_,e1x1,_,p1x1,b1x2⟩:=reps_cons b1x1
  subst e1x1
  obtain ⟨x1x2,xs1x2,_,_,e1x2,_,p1x2,b1x3⟩:=reps_cons b1x2
  subst e1x2
  obtain ⟨x1x3,xs1x3,_,_,e1x3,_,p1x3,b1x4⟩:=reps_cons b1x3
  subst e1x3
  have e1z:=reps_nil b1x4
  subst e1z
  obtain ⟨n1x0,q1x0,c1x0⟩:=int_of p1x0
  subst q1x0
  obtain ⟨n1x1,q1x1,c1x1⟩:=int_of p1x1
  subst q1x1
  obtain ⟨n1x2,q1x2,c1x2⟩:=int_of p1x2
  subst q1x2
  obtain ⟨n1x3,q1x3,c1x3⟩:=int_of p1x3
  subst q1x3
  exact law_DyeMore c0 (Nat.le_refl _) c1x0 c1x1 c1x2 c1x3 (fun _=>rfl)
theorem own:ownKnob Try.prog.godebug=none:=by kernel_rfl
theorem laidOut:laidOutB Try.prog=true:=by kernel_rfl
theorem lifted (os:Os)(started:os.Started)(D:Type)(enc:TypeId×Value→D) :
    ReturnsInHanded {} Try.checked os 8 .any (Rows.dyeMoreSpec.pre6 enc Try.prog Try.f8 Rows.dyeMoreRow.domain false) (Rows.dyeMoreSpec.post enc Try.prog Try.f8 false true false false) :=
  lifted_of (C:=Try.checked) (s:=Rows.dyeMoreSpec) (g:=20) (cts:=[(true,[.sl [cInt,cInt,cInt,cInt],.sl [cInt,cInt,cInt,cInt,cInt]]),(true,[cInt,cInt,cInt,cInt])]) own started (by kernel_rfl) Try.func8 tblOk laidOut
    (ChangeSpec.witness6 (enc:=enc) (C:=Try.checked) false ⟨#[],#[.agg #[.slice none 0 0,.slice none 0 0],.agg #[.int .i64 0,.int .i64 0,.int .i64 0,.int .i64 0]],[]⟩ 8 (by kernel_rfl) (by kernel_rfl) (by kernel_rfl) (by kernel_rfl))
    rfl (by kernel_rfl) Try.underlying4 (by kernel_rfl) (by decide +kernel)
    (fun ds h=>by
      have h:ds.length=2:=h
      match ds,h with
      | [d0,d1],_=>rfl)
    law
theorem proved:Rows.DyeMoreSaid :=
  OpenClaim.holds_of_wide 8 Try.f8 rfl rfl rfl rfl rfl rfl rfl ⟨rfl,rfl,rfl,rfl,rfl⟩ rfl rfl rfl rfl rfl (by kernel_rfl) Try.func8 (by kernel_rfl)
    (of_decide_eq_true (by kernel_rfl)) (by unfold Func.isWrapper;first | (rw [if_pos (by decide +kernel)];kernel_rfl) | (rw [if_neg (by decide +kernel)];exact ⟨rfl,rfl⟩))
    (fun os started H enc _=>lifted os started H enc)
end Go.Proofs.Ytkmcdiajcnejiaa.dyeMore
