/- Arguments, as lists of ints and the like. -/
import Derived.Test.YtgjlhdggllakbaaGreatDoorVmLib
set_option linter.unusedVariables false
set_option linter.unusedSimpArgs false
set_option linter.unusedSectionVars false
namespace Go.Proofs.YtgjlhdggllakbaaGreatDoor.Vm
open Go
attribute [-simp] List.getD_eq_getElem?_getD
abbrev cZ:CT:=.int .i64
abbrev qw:CT:=.sl [.int .i64]
theorem Qy {n:Int}(h:(Lit.int .i64 n).wf=true):I64 n:=by
 simpa [I64,Lit.wf,IntKind.min,IntKind.max,IntKind.signed,IntKind.bits] using h
theorem eC {H:Hp}{v:V}{d:CD}(h:RepT H cZ v d):∃n:Int,v=.int .i64 n/\I64 n:=by
 cases h with
 | int hw=>exact ⟨_,rfl,Qy hw⟩
def Es:V->Int
 | .int _ n=>n
 | _=>0
theorem Ds {H:Hp}{v:V}{d:CD}(h:RepT H qw v d):∃l:List Int,SlV H v l/\l.length<=maxLen/\∀x∈l,I64 x:=by
 cases h with
 | nil=>exact ⟨[],.nil,by simp,by simp⟩
 | empty=>exact ⟨[],.empty,by simp,by simp⟩
 | sl h1 h2 h3 h4 h5 =>
   rename_i b cs own l
   have h2:cs.length=l.length:=by simpa using h2
   have key:∀i,i<l.length->∃n,cs.getD i dv=.int .i64 n/\I64 n:=by
    intro i hi
    have:=h5 i 0 hi (by simp)
    simp only [List.length_singleton,Nat.mul_one,Nat.add_zero] at this
    exact eC this
   have hcs:cs=bH (cs.map Es):=by
    apply List.ext_getElem (by simp [bH])
    intro i h6 h7
    obtain ⟨n,e,_⟩:=key i (by omega)
    rw [List.getD_eq_getElem?_getD,List.getElem?_eq_getElem h6] at e
    simp only [Option.getD_some] at e
    simp [bH,e,Es]
   refine ⟨cs.map Es,?_,by simp [h2];exact h3,?_⟩
   ·have:=SlV.sl (l:=cs.map Es) (off:=0) (H:=H) h1 (by simp) (by rw [List.drop_zero,List.take_of_length_le (by simp)];exact hcs)
    simpa [h2] using this
   ·intro x hx
    obtain ⟨v,hv,rfl⟩:=List.mem_map.1 hx
    obtain ⟨i,hi,rfl⟩:=List.getElem_of_mem hv
    obtain ⟨n,e,hn⟩:=key i (by omega)
    rw [List.getD_eq_getElem?_getD,List.getElem?_eq_getElem hi] at e
    simp only [Option.getD_some] at e
    rw [e];exact hn
theorem mu {H:Hp}{vs:List V}{ds:List CD}(h:RepTs H [] vs ds):vs=[]:=List.eq_nil_of_length_eq_zero h.lv
theorem bZ {H:Hp}{t:CT}{ts:List CT}{vs:List V}{ds:List CD}(h:RepTs H (t :: ts) vs ds):∃v us d es,vs=v :: us/\ds=d :: es/\RepT H t v d/\RepTs H ts us es:=by
 obtain ⟨l1,l2,l3⟩:=h
 match vs,ds,l1,l2 with
 | v :: us,d :: es,l1,l2 =>
   refine ⟨v,us,d,es,rfl,rfl,?_,by simpa using l1,by simpa using l2,fun j hj => ?_⟩
   ·exact l3 0 (by simp)
   ·exact l3 (j+1) (by simpa using hj)
theorem GC {H:Hp}{us:List V}{dss:List (List CD)}(h:RepAs H [] us dss):us=[]:=by cases h;rfl
theorem pU {H:Hp}{a:Bool×List CT}{asL:List (Bool×List CT)}{us:List V}{dss:List (List CD)}(h:RepAs H (a :: asL) us dss):∃v vs d ds,us=v :: vs/\dss=d :: ds/\RepA H a v d/\RepAs H asL vs ds:=by
 cases h with
 | cons h1 h2=>exact ⟨_,_,_,_,rfl,rfl,h1,h2⟩
theorem Lr {H:Hp}{t:CT}{v:V}{ds:List CD}(h:RepA H (false,[t]) v ds):∃d,RepT H t v d:=by
 cases h with
 | one h=>exact ⟨_,h⟩
theorem K7 {H:Hp}{ts:List CT}{v:V}{ds:List CD}(h:RepA H (true,ts) v ds):∃vs,v=.agg vs/\RepTs H ts vs ds:=by
 cases h with
 | agg h=>exact ⟨_,rfl,h⟩
end Go.Proofs.YtgjlhdggllakbaaGreatDoor.Vm
