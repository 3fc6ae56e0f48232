/- 'CapMisses': the given statement: for every input the law returns true, and what it was given reads as before. No condition. -/
import Derived.Test.YtclghkegfpcdpaaQCapMissesD
import Derived.Test.YtclghkegfpcdpaaVmArg
import Derived.Test.YtclghkegfpcdpaaRows
namespace Go.Proofs.Ytclghkegfpcdpaa.capMisses
open Go Go.Proofs.Ytclghkegfpcdpaa.Vm
set_option linter.unusedVariables false
set_option maxRecDepth 100000
theorem law (H:Hp)(us:List V)(dss:List (List CD))(h:RepAs H [(true,[.sl [cInts,cInts],.sl [cInt,cInt,cInt,cInt],cInt])] us dss):VCall tbl H.length 6 us H fun v _=>v=.bool true:=by
  obtain ⟨v0,us0,_,_,e0,_,a0,h0⟩:=repas_cons h
  subst e0
  have e:=repas_nil h0
  subst e
  obtain ⟨ws0,e0,b0⟩:=repa_agg a0
  subst e0
  obtain ⟨l0,c0⟩:=cap_of b0
  exact law_CapMisses c0 (Nat.le_refl _) (fun _=>rfl)
theorem own:ownKnob Try.prog.godebug=none:=by kernel_rfl
theorem laidOut:laidOutB Try.prog=true:=by kernel_rfl
theorem lifted (os:Os)(started:os.Started)(D:Type)(enc:TypeId×Value→D) :
    ReturnsInHanded {} Try.checked os 6 .any (Rows.capMissesSpec.pre6 enc Try.prog Try.f6 Rows.capMissesRow.domain false) (Rows.capMissesSpec.post enc Try.prog Try.f6 false true false false) :=
  lifted_of (C:=Try.checked) (s:=Rows.capMissesSpec) (g:=20) (cts:=[(true,[.sl [cInts,cInts],.sl [cInt,cInt,cInt,cInt],cInt])]) own started (by kernel_rfl) Try.func6 tblOk laidOut
    (ChangeSpec.witness6 (enc:=enc) (C:=Try.checked) false ⟨#[],#[.agg #[.slice none 0 0,.slice none 0 0,.int .i64 0]],[]⟩ 8 (by kernel_rfl) (by kernel_rfl) (by kernel_rfl) (by kernel_rfl))
    rfl (by kernel_rfl) Try.underlying4 (by kernel_rfl) (by decide +kernel)
    (fun ds h=>by
      have h:ds.length=1:=h
      match ds,h with
      | [d0],_=>rfl)
    law
theorem proved:Rows.CapMissesSaid :=
  OpenClaim.holds_of_wide 6 Try.f6 rfl rfl rfl rfl rfl rfl rfl ⟨rfl,rfl,rfl,rfl,rfl⟩ rfl rfl rfl rfl rfl (by kernel_rfl) Try.func6 (by kernel_rfl)
    (of_decide_eq_true (by kernel_rfl)) (by unfold Func.isWrapper;first | (rw [if_pos (by decide +kernel)];kernel_rfl) | (rw [if_neg (by decide +kernel)];exact ⟨rfl,rfl⟩))
    (fun os started H enc _=>lifted os started H enc)
end Go.Proofs.Ytclghkegfpcdpaa.capMisses
