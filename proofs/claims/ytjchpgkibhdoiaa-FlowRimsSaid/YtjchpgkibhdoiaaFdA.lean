/- Places: lists of pairs of ints (for the door laws of flow). -/
import Derived.Test.YtjchpgkibhdoiaaFlF
namespace Go.Proofs.Ytjchpgkibhdoiaa.Vm
open Go
structure Pl where
  x : Int
  y : Int
  deriving Inhabited, DecidableEq
def Pl.cells (a : Pl) : List V := [.int .i64 a.x, .int .i64 a.y]
def plC : Cod Pl 2 := ⟨Pl.cells, fun _ => rfl⟩
theorem pls_of {H : Hp} {v : V} {d : CD} (h : RepT H (.sl [cInt, cInt]) v d) : ∃ l, LstV plC H v l := by
  obtain ⟨l, h1, _, _⟩ := lst_of (c := plC) rfl (fun z => True) (fun vs ds h => by
    obtain ⟨v0, u0, _, _, rfl, _, p0, q0⟩ := reps_cons h
    obtain ⟨v1, u1, _, _, rfl, _, p1, q1⟩ := reps_cons q0
    have e := reps_nil q1
    subst e
    obtain ⟨n0, rfl, c0⟩ := int_of p0
    obtain ⟨n1, rfl, c1⟩ := int_of p1
    exact ⟨⟨n0, n1⟩, rfl, trivial⟩) h
  exact ⟨l, h1⟩
end Go.Proofs.Ytjchpgkibhdoiaa.Vm
