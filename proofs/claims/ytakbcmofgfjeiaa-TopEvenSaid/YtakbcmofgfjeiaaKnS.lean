/- Lists of zones over the machine (for KnotWorks, KnotSupplies). -/
import Derived.Test.YtakbcmofgfjeiaaKnN
import Derived.Test.YtakbcmofgfjeiaaKnM
import Derived.Test.YtakbcmofgfjeiaaVmRec
namespace Go.Proofs.Ytakbcmofgfjeiaa.Vm
open Go
set_option maxRecDepth 100000
set_option linter.unusedSimpArgs false
set_option linter.unusedVariables false
attribute [-simp] List.getD_eq_getElem?_getD

structure Zn where
  a0 : Int
  a1 : Int
  a2 : Int
  a3 : Int
  a4 : Int
  g : Bool
  deriving Inhabited
def Zn.cells (z : Zn) : List V := [.int .i64 z.a0, .int .i64 z.a1, .int .i64 z.a2, .int .i64 z.a3, .int .i64 z.a4, .bool z.g]
def Zn.ok (z : Zn) : Bool := zB z.a0 z.a1 z.a2 z.a3 z.a4
def Zn.in64 (z : Zn) : Prop := I64 z.a0 ∧ I64 z.a1 ∧ I64 z.a2 ∧ I64 z.a3 ∧ I64 z.a4
def zonC : Cod Zn 6 := ⟨Zn.cells, fun _ => rfl⟩
/-- a slice of zones -/
structure ZonV (H : Hp) (v : V) (l : List Zn) : Prop where
  lst : LstV zonC H v l
  all : ∀ z ∈ l, z.in64
def zsErr (l : List Zn) : Int := if 8 < l.length then 4 else if l.all Zn.ok then 0 else 1

section
variable {lim : Nat} {H : Hp} {K : V → Hp → Prop} {v : V} {l : List Zn}
theorem ZonV.len (h : ZonV H v l) : vlenS v = some (.int .i64 l.length) := h.lst.len
theorem ZonV.stor (h : ZonV H v l) : stor v = true := h.lst.stor
theorem ZonV.one (h : ZonV H v l) : cellsV v = [v] := h.lst.one
theorem ZonV.mono {H' : Hp} (hx : HX H H') (h : ZonV H v l) : ZonV H' v l := ⟨h.lst.mono hx, h.all⟩
theorem ZonV.addr (h : ZonV H v l) {i : Int} (hi : 0 ≤ i ∧ i < l.length) : viaddrS 6 v (.int .i64 i) = some (ept 6 v i.toNat) := h.lst.addr hi
theorem ZonV.load (h : ZonV H v l) {i : Nat} (hi : i < l.length) {L : Lo} : vload (some 6) L H (ept 6 v i) = some (.agg (l.getD i default).cells) := h.lst.load hi
theorem ZonV.in64 (h : ZonV H v l) {i : Nat} (hi : i < l.length) : (l.getD i default).in64 := h.all _ (by simp [List.getD_eq_getElem?_getD, hi])
theorem zons_of {d : CD} (h : RepT H (.sl [cInt, cInt, cInt, cInt, cInt, .bool]) v d) : ∃ l, ZonV H v l := by
  obtain ⟨l, h1, _, h3⟩ := lst_of (c := zonC) rfl (fun z => z.in64) (fun vs ds h => by
    obtain ⟨v0, u0, _, _, rfl, _, p0, q0⟩ := reps_cons h
    obtain ⟨v1, u1, _, _, rfl, _, p1, q1⟩ := reps_cons q0
    obtain ⟨v2, u2, _, _, rfl, _, p2, q2⟩ := reps_cons q1
    obtain ⟨v3, u3, _, _, rfl, _, p3, q3⟩ := reps_cons q2
    obtain ⟨v4, u4, _, _, rfl, _, p4, q4⟩ := reps_cons q3
    obtain ⟨v5, u5, _, _, rfl, _, p5, q5⟩ := reps_cons q4
    have e := reps_nil q5
    subst e
    obtain ⟨n0, rfl, c0⟩ := int_of p0
    obtain ⟨n1, rfl, c1⟩ := int_of p1
    obtain ⟨n2, rfl, c2⟩ := int_of p2
    obtain ⟨n3, rfl, c3⟩ := int_of p3
    obtain ⟨n4, rfl, c4⟩ := int_of p4
    obtain ⟨b5, rfl⟩ := bool_of p5
    exact ⟨⟨n0, n1, n2, n3, n4, b5⟩, rfl, c0, c1, c2, c3, c4⟩) h
  exact ⟨l, h1, h3⟩

theorem ref_zones (hv : ZonV H v l) (hK : K (.int .i64 (zsErr l)) H) : VCall tbl lim 79 [v] H K := by
  refine VCall_fn tbl_at79 rfl ?_
  simp [vf79, hv.len]
  refine cond_dec (fun h1 => ?_) fun h1 => ?_
  · have : 8 < l.length := by omega
    simp; simpa [zsErr, this] using hK
  have h1' : ¬ 8 < l.length := by omega
  simp
  refine wLoop_up l.length (fun i fr L H' => (fr 0 = v ∧ fr 3 = .int .i64 i) ∧ L = [] ∧ H' = H ∧ (l.take i).all Zn.ok = true) ⟨by simp, rfl, rfl, by simp⟩ ?_
  rintro i hi fr L H' ⟨⟨f0, f3⟩, rfl, rfl, hb⟩
  simp [f0, f3, hv.len]
  refine cond_dec (fun ht => ?_) fun hf => ?_
  · have ha := hv.addr (i := (i : Int)) (by omega)
    have hl := fun L => hv.load (i := i) (L := L) (by omega)
    have hq := hv.in64 (i := i) (by omega)
    have hs : (l.take (i + 1)).all Zn.ok = (l.getD i default).ok := by
      rw [List.take_add_one, List.all_append, hb, List.getElem?_eq_getElem ht]; simp [List.getD_eq_getElem?_getD, ht]
    have hm : (l.getD i default) ∈ l := by simp [List.getD_eq_getElem?_getD, ht]
    simp only [Int.toNat_natCast] at ha
    generalize l.getD i default = z at *
    obtain ⟨a0, a1, a2, a3, a4, g⟩ := z
    simp only [Zn.cells] at hl
    simp (disch := omega) [f0, f3, ha, hl]
    refine ref_Validate hq.2.2.2.1 hq.2.2.2.2 ?_
    simp only [Zn.ok] at hs
    cases hz : zB a0 a1 a2 a3 a4 with
    | false =>
      have : l.all Zn.ok = false := List.all_eq_false.2 ⟨_, hm, by simp [Zn.ok, hz]⟩
      simp
      simpa [zsErr, h1', this] using hK
    | true =>
      rw [hz] at hs
      simp (disch := omega) [f0, f3, wrap_i64]
      exact ⟨by omega, by simpa using hs⟩
  · have : i = l.length := by omega
    subst this
    rw [List.take_length] at hb
    simp
    simpa [zsErr, h1', hb] using hK
end
end Go.Proofs.Ytakbcmofgfjeiaa.Vm
