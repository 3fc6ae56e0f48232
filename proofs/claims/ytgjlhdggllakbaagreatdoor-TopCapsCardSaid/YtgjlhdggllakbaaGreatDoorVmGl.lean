/- The package-level variables that the machine knows: number of the variable, its cells. They are the first blocks of the virtual heap. -/
import Derived.Test.YtgjlhdggllakbaaGreatDoorVmCore
import Derived.Test.YtgjlhdggllakbaaGreatDoorProg
set_option linter.unusedVariables false
set_option linter.unusedSimpArgs false
set_option linter.unusedSectionVars false
namespace Go.Proofs.YtgjlhdggllakbaaGreatDoor.Vm
open Go
def cG:List (Option Nat×List V):=[(some 2,[.int .u64 1,.int .u64 10,.int .u64 100,.int .u64 1000,.int .u64 10000,.int .u64 100000,.int .u64 1000000,.int .u64 10000000,.int .u64 100000000,.int .u64 1000000000,.int .u64 10000000000,.int .u64 100000000000,.int .u64 1000000000000,.int .u64 10000000000000,.int .u64 100000000000000,.int .u64 1000000000000000,.int .u64 10000000000000000,.int .u64 100000000000000000,.int .u64 1000000000000000000,.int .u64 10000000000000000000]),(none,[]),(none,[]),(some 0,[.iface 171 (.ptr 1 0)]),(some 1,[.iface 171 (.ptr 2 0)])]
def Re (g:Nat):Option Nat:=cG.findIdx? fun x=>x.1==some g
theorem JJ {g k:Nat}(h:Re g=some k):∃cs,cG[k]? = some (some g,cs):=by
 unfold Re at h
 rw [List.findIdx?_eq_some_iff_getElem] at h
 obtain ⟨hk,h1,_⟩:=h
 refine ⟨(cG[k]).2,?_⟩
 rw [List.getElem?_eq_getElem hk]
 have:(cG[k]).1=some g:=by simpa using h1
 rw [←this]
def dQ:Hp:=cG.map fun x=>.row x.2 false
noncomputable def rX:Program:=Go.Proofs.Tryz.prog
end Go.Proofs.YtgjlhdggllakbaaGreatDoor.Vm
