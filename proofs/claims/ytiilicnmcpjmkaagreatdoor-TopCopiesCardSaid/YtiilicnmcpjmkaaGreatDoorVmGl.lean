/- The package-level variables that the machine knows: number of the variable, its cells. They are the first blocks of the virtual heap. -/
import Derived.Test.YtiilicnmcpjmkaaGreatDoorVmCore
namespace Go.Proofs.YtiilicnmcpjmkaaGreatDoor.Vm
open Go
def glMap:List (Option Nat×List V):=[(some 1,[.int .u64 1,.int .u64 10,.int .u64 100,.int .u64 1000,.int .u64 10000,.int .u64 100000,.int .u64 1000000,.int .u64 10000000,.int .u64 100000000,.int .u64 1000000000,.int .u64 10000000000,.int .u64 100000000000,.int .u64 1000000000000,.int .u64 10000000000000,.int .u64 100000000000000,.int .u64 1000000000000000,.int .u64 10000000000000000,.int .u64 100000000000000000,.int .u64 1000000000000000000,.int .u64 10000000000000000000]),(none,[]),(none,[]),(some 3,[.iface 177 (.ptr 1 0)]),(some 4,[.iface 177 (.ptr 2 0)]),(some 0,[.opq (.iface 111 (.agg #[.pointer (some ⟨9,57,none⟩)]))])]
def glAt (g:Nat):Option Nat:=glMap.findIdx? fun x=>x.1==some g
theorem glAt_get {g k:Nat}(h:glAt g=some k):∃cs,glMap[k]? = some (some g,cs):=by
  unfold glAt at h
  rw [List.findIdx?_eq_some_iff_getElem] at h
  obtain ⟨hk,h1,_⟩:=h
  refine ⟨(glMap[k]).2,?_⟩
  rw [List.getElem?_eq_getElem hk]
  have:(glMap[k]).1=some g:=by simpa using h1
  rw [←this]
def glHp:Hp:=glMap.map fun x=>.row x.2 false
noncomputable def theP:Program:=default
end Go.Proofs.YtiilicnmcpjmkaaGreatDoor.Vm
