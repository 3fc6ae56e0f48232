/- Package plot over the machine: the wearings at a minute; PlotCrowds. -/
import Derived.Test.YtkmcdiajcnejiaaPlC
namespace Go.Proofs.Ytkmcdiajcnejiaa.Vm
open Go
set_option maxRecDepth 100000
set_option linter.unusedSimpArgs false
set_option linter.unusedVariables false
attribute [-simp] List.getD_eq_getElem?_getD
/-- a wearing occupies a wig of a size at a minute -/
def inB (p : Ply) (s a : Int) (w : Wr) : Bool := decide (w.s = s) && (decide (w.f ≤ a) && decide (a < w.t + p.rd))
def crowdN (p : Ply) (s a : Int) (n : Nat) : List Nat := (List.range n).filter fun i => inB p s a (p.W.getD i default)
def crowdL (p : Ply) (s a : Int) (n : Nat) : List Int := (crowdN p s a n).map Int.ofNat
theorem crowdL_succ {p : Ply} {s a : Int} {n : Nat} : crowdL p s a (n + 1) = if inB p s a (p.W.getD n default) = true then crowdL p s a n ++ [(n : Int)] else crowdL p s a n := by
  simp only [crowdL, crowdN, List.range_succ, List.filter_append, List.map_append]
  by_cases h : inB p s a (p.W.getD n default) = true
  · simp [h]
  · simp [h]
theorem crowdL_le {p : Ply} {s a : Int} : ∀ {n : Nat}, (crowdL p s a n).length ≤ n
  | 0 => by simp [crowdL, crowdN]
  | n + 1 => by
    rw [crowdL_succ]
    have := crowdL_le (p := p) (s := s) (a := a) (n := n)
    split
    · simp; omega
    · omega
theorem crowdL_mem {p : Ply} {s a : Int} {n : Nat} {x : Int} (h : x ∈ crowdL p s a n) : ∃ i : Nat, x = i ∧ i < n ∧ inB p s a (p.W.getD i default) = true := by
  simp only [crowdL, crowdN, List.mem_map, List.mem_filter, List.mem_range] at h
  obtain ⟨i, ⟨h1, h2⟩, rfl⟩ := h
  exact ⟨i, rfl, h1, h2⟩
theorem inB_clash {p : Ply} {s a : Int} {v w : Wr} (hv : inB p s a v = true) (hw : inB p s a w = true) : clashB p v w = true := by
  simp only [inB, Bool.and_eq_true, decide_eq_true_eq] at hv hw
  have : tightB v w p.rd = true := by
    unfold tightB
    split
    · simp only [decide_eq_true_eq]; omega
    · split
      · simp only [decide_eq_true_eq]; omega
      · rfl
  simp [clashB, this]
def eqL (l m : List Int) : Bool := decide (l = m)
section
variable {lim : Nat} {H : Hp} {K : V → Hp → Prop} {wv : V} {W : List Wr} {r c s a : Int} {v w : Wr} {i k : Int}
theorem plot_crowd (hw : LstV wrC H wv W) (hval : valP ⟨W, r, c⟩ = 0) (hlim : lim ≤ H.length) (hK : ∀ H' v, HX H H' → OwnV H.length H' v (crowdL ⟨W, r, c⟩ s a W.length) → K v H') :
    VCall tbl lim 67 [.agg [wv, .int .i64 r, .int .i64 c], .agg [.int .i64 s, .int .i64 a]] H K := by
  refine VCall_fn tbl_at67 rfl ?_
  obtain ⟨g1, g2, g3, g4, g5⟩ := valP_ok hval
  simp only at g1 g2 g3 g4 g5
  simp [vf67, hw.len, hw.one, hw.stor]
  refine wLoop_up W.length (fun i fr L H' => ∃ u, (fr 2 = .lp 0 0 ∧ fr 3 = .lp 1 0 ∧ fr 9 = wv ∧ fr 10 = .int .i64 W.length ∧ fr 11 = .int .i64 i ∧ fr 5 = u) ∧ L[0]? = some [wv, .int .i64 r, .int .i64 c] ∧ L[1]? = some [.int .i64 s, .int .i64 a] ∧ HX H H' ∧ OwnV H.length H' u (crowdL ⟨W, r, c⟩ s a i)) ⟨.snil, by simp, rfl, rfl, HX.refl, .nil⟩ ?_
  rintro i hi fr L H' ⟨u, ⟨f2, f3, f9, f10, f11, f5⟩, l0, l1, hx, hu⟩
  have hxl := hx.len
  have hcl := crowdL_le (p := ⟨W, r, c⟩) (s := s) (a := a) (n := i)
  simp [f2, f3, f9, f10, f11, f5]
  refine cond_dec (fun ht => ?_) fun hfl => ?_
  · have ht : i < W.length := by omega
    have hb := wrB_spec (g4 i ht)
    by_cases e : (W.getD i default).s = s
    · simp (disch := omega) [f2, f3, f9, f10, f11, f5, hw.at ht, wr_load (hw.mono hx), lastO, lastS, splice44, iz4, keepL l0, keepL l1, eq_true e, wrap_i64, rd_two0, rd_two1]
      refine cond_bool (fun hb => ?_) fun hb => ?_
      · have hin : inB ⟨W, r, c⟩ s a (W.getD i default) = true := by simpa [inB, eq_true e] using hb
        have e2 := crowdL_succ (p := ⟨W, r, c⟩) (s := s) (a := a) (n := i)
        simp only [hin, if_true] at e2
        simp (disch := omega) [f2, f3, f9, f10, f11, f5, wrap_i64, vbslice_some, hu.append (lim := lim) (x := i) ⟨by omega, by omega⟩, keepL l0, keepL l1]
        refine ⟨by omega, hu.apX hx (Nat.le_refl _), ?_⟩
        rw [e2]
        have := hu.ap hxl (x := i) (new := [.int .i64 i])
        simpa using this
      · have hin : inB ⟨W, r, c⟩ s a (W.getD i default) = false := by simpa [inB, eq_true e] using hb
        have e2 := crowdL_succ (p := ⟨W, r, c⟩) (s := s) (a := a) (n := i)
        simp only [hin, Bool.false_eq_true, if_false] at e2
        simp (disch := omega) [f2, f3, f9, f10, f11, f5, wrap_i64, keepL l0, keepL l1, e2]
        exact ⟨by omega, hx, hu⟩
    · have hin : inB ⟨W, r, c⟩ s a (W.getD i default) = false := by simp [inB, eq_false e]
      have e2 := crowdL_succ (p := ⟨W, r, c⟩) (s := s) (a := a) (n := i)
      simp only [hin, Bool.false_eq_true, if_false] at e2
      simp (disch := omega) [f2, f3, f9, f10, f11, f5, hw.at ht, wr_load (hw.mono hx), lastO, lastS, splice44, iz4, keepL l0, keepL l1, eq_false e, wrap_i64, rd_two0, rd_two1, e2]
      exact ⟨by omega, hx, hu⟩
  · have : i = W.length := by omega
    subst this
    simp [f5, hu.sl.stor]
    exact hK _ _ hx hu
def crowdR (p : Ply) (s a : Int) : List Int := if valP p = 0 then crowdL p s a p.W.length else []
end
end Go.Proofs.Ytkmcdiajcnejiaa.Vm
