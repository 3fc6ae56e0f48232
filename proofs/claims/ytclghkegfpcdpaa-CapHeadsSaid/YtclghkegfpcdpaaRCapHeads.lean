/- 'CapHeads': the given statement: for every input the law returns true, and what it was given reads as before. No condition. -/
import Derived.Test.YtclghkegfpcdpaaQCapHeadsA
import Derived.Test.YtclghkegfpcdpaaVmArg
import Derived.Test.YtclghkegfpcdpaaRows
namespace Go.Proofs.Ytclghkegfpcdpaa.capHeads
open Go Go.Proofs.Ytclghkegfpcdpaa.Vm
set_option linter.unusedVariables false
set_option maxRecDepth 100000
theorem law (H:Hp)(us:List V)(dss:List (List CD))(h:RepAs H [(true,[cInt,cInt,cInt,cInt,cInt,cInt]),(false,[cInts])] us dss):VCall tbl H.length 13 us H fun v _=>v=.bool true:=by
  obtain ⟨v0,us0,_,_,e0,_,a0,h0⟩:=repas_cons h
  subst e0
  obtain ⟨v1,us1,_,_,e1,_,a1,h1⟩:=repas_cons h0
  subst e1
  have e:=repas_nil h1
  subst e
  obtain ⟨ws0,e0,b0x0⟩:=repa_agg a0
  subst e0
  obtain ⟨x0x0,xs0x0,_,_,e0x0,_,p0x0,b0x1⟩:=reps_cons b0x0
  subst e0x0
  obtain ⟨x0x1,xs0x1,_,_,e0x1,_,p0x1,b0x2⟩:=reps_cons b0x1
  subst e0x1
  obtain ⟨x0x2,xs0x2,_,_,e0x2,_,p0x2,b0x3⟩:=reps_cons b0x2
  subst e0x2
  obtain ⟨x0x3,xs0x3,_,_,e0x3,_,p0x3,b0x4⟩:=reps_cons b0x3
  subst e0x3
  obtain ⟨x0x4,xs0x4,_,_,e0x4,_,p0x4,b0x5⟩:=reps_cons b0x4
  subst e0x4
  obtain ⟨x0x5,xs0x5,_,_,e0x5,_,p0x5,b0x6⟩:=reps_cons b0x5
  subst e0x5
  have e0z:=reps_nil b0x6
  subst e0z
  obtain ⟨n0x0,q0x0,c0x0⟩:=int_of p0x0
  subst q0x0
  obtain ⟨n0x1,q0x1,c0x1⟩:=int_of p0x1
  subst q0x1
  obtain ⟨n0x2,q0x2,c0x2⟩:=int_of p0x2
  subst q0x2
  obtain ⟨n0x3,q0x3,c0x3⟩:=int_of p0x3
  subst q0x3
  obtain ⟨n0x4,q0x4,c0x4⟩:=int_of p0x4
  subst q0x4
  obtain ⟨n0x5,q0x5,c0x5⟩:=int_of p0x5
  subst q0x5
  obtain ⟨_,b1⟩:=repa_one a1
  obtain ⟨l1,c1,m1,z1⟩:=ints_of b1
  exact law_CapHeads c1 (Nat.le_refl _) c0x0 c0x1 c0x2 c0x3 c0x4 c0x5 (fun _=>rfl)
theorem own:ownKnob Try.prog.godebug=none:=by kernel_rfl
theorem laidOut:laidOutB Try.prog=true:=by kernel_rfl
theorem lifted (os:Os)(started:os.Started)(D:Type)(enc:TypeId×Value→D) :
    ReturnsInHanded {} Try.checked os 13 .any (Rows.capHeadsSpec.pre6 enc Try.prog Try.f13 Rows.capHeadsRow.domain false) (Rows.capHeadsSpec.post enc Try.prog Try.f13 false true false false) :=
  lifted_of (C:=Try.checked) (s:=Rows.capHeadsSpec) (g:=20) (cts:=[(true,[cInt,cInt,cInt,cInt,cInt,cInt]),(false,[cInts])]) own started (by kernel_rfl) Try.func13 tblOk laidOut
    (ChangeSpec.witness6 (enc:=enc) (C:=Try.checked) false ⟨#[],#[.agg #[.int .i64 0,.int .i64 0,.int .i64 0,.int .i64 0,.int .i64 0,.int .i64 0],.slice none 0 0],[]⟩ 8 (by kernel_rfl) (by kernel_rfl) (by kernel_rfl) (by kernel_rfl))
    rfl (by kernel_rfl) Try.underlying4 (by kernel_rfl) (by decide +kernel)
    (fun ds h=>by
      have h:ds.length=2:=h
      match ds,h with
      | [d0,d1],_=>rfl)
    law
theorem proved:Rows.CapHeadsSaid :=
  OpenClaim.holds_of_wide 13 Try.f13 rfl rfl rfl rfl rfl rfl rfl ⟨rfl,rfl,rfl,rfl,rfl⟩ rfl rfl rfl rfl rfl (by kernel_rfl) Try.func13 (by kernel_rfl)
    (of_decide_eq_true (by kernel_rfl)) (by unfold Func.isWrapper;first | (rw [if_pos (by decide +kernel)];kernel_rfl) | (rw [if_neg (by decide +kernel)];exact ⟨rfl,rfl⟩))
    (fun os started H enc _=>lifted os started H enc)
end Go.Proofs.Ytclghkegfpcdpaa.capHeads
