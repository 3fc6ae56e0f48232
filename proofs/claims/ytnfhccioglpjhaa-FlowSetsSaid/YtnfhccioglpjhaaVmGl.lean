/- The package-level variables that the machine knows: number of the variable, its cells. They are the first blocks of the virtual heap. -/
import Derived.Test.YtnfhccioglpjhaaVmCore
namespace Go.Proofs.Ytnfhccioglpjhaa.Vm
open Go
def glMap : List (Option Nat × List V) := []
def glAt (g : Nat) : Option Nat := glMap.findIdx? fun x => x.1 == some g
theorem glAt_get {g k : Nat} (h : glAt g = some k) : ∃ cs, glMap[k]? = some (some g, cs) := by
  unfold glAt at h
  rw [List.findIdx?_eq_some_iff_getElem] at h
  obtain ⟨hk, h1, _⟩ := h
  refine ⟨(glMap[k]).2, ?_⟩
  rw [List.getElem?_eq_getElem hk]
  have : (glMap[k]).1 = some g := by simpa using h1
  rw [← this]
/-- their rows: the start of the heap -/
def glHp : Hp := glMap.map fun x => .row x.2 false
/-- the program whose loops over functions the machine knows -/
noncomputable def theP : Program := default
end Go.Proofs.Ytnfhccioglpjhaa.Vm
