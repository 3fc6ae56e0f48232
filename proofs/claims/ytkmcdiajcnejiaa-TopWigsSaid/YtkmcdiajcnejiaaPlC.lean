/- Package plot over the machine: which wearings clash; PlotPlays. -/
import Derived.Test.YtkmcdiajcnejiaaPlB
namespace Go.Proofs.Ytkmcdiajcnejiaa.Vm
open Go
set_option maxRecDepth 100000
set_option linter.unusedSimpArgs false
set_option linter.unusedVariables false
attribute [-simp] List.getD_eq_getElem?_getD
def clashP (p : Ply) (i k : Int) : Bool × Int :=
  if valP p ≠ 0 then (false, valP p) else if i < 0 ∨ k < 0 ∨ (p.W.length : Int) ≤ i ∨ (p.W.length : Int) ≤ k then (false, 5)
  else (clashB p (p.W.getD i.toNat default) (p.W.getD k.toNat default), 0)
theorem clashP_comm {p : Ply} {i k : Int} : clashP p i k = clashP p k i := by
  unfold clashP
  split
  · rfl
  · by_cases h : i < 0 ∨ k < 0 ∨ (p.W.length : Int) ≤ i ∨ (p.W.length : Int) ≤ k
    · rw [if_pos h, if_pos (by omega)]
    · rw [if_neg h, if_neg (by omega), clashB_comm]
section
variable {lim : Nat} {H : Hp} {K : V → Hp → Prop} {wv : V} {W : List Wr} {r c : Int} {v w : Wr} {i k : Int}
theorem plot_clash (hw0 : LstV wrC H wv W) (hv : wrB v = true) (hw : wrB w = true) (hr : 0 ≤ r ∧ r ≤ 600) (hK : K (.bool (clashB ⟨W, r, c⟩ v w)) H) : VCall tbl lim 62 [.agg [wv, .int .i64 r, .int .i64 c], .agg v.cells, .agg w.cells] H K := by
  refine VCall_fn tbl_at62 rfl ?_
  by_cases e : v.s = w.s
  · simp [vf62, Wr.cells, hw0.one, hw0.stor, eq_true e]
    refine plot_meet (v := v) (w := w) hv hw hr ?_
    simp; simpa [clashB, eq_true e] using hK
  · simp [vf62, Wr.cells, hw0.one, hw0.stor, eq_false e]
    simpa [clashB, eq_false e] using hK
theorem ref_clash (hw : LstV wrC H wv W) (hval : valP ⟨W, r, c⟩ = 0) {i k : Nat} (hi : i < W.length) (hk : k < W.length) (hK : K (.bool (clashB ⟨W, r, c⟩ (W.getD i default) (W.getD k default))) H) :
    VCall tbl lim 64 [.agg [wv, .int .i64 r, .int .i64 c], .int .i64 i, .int .i64 k] H K := by
  refine VCall_fn tbl_at64 rfl ?_
  obtain ⟨g1, g2, g3, g4, g5⟩ := valP_ok hval
  have fa : ∀ i, i < W.length → ∀ j, vfaddr j (ept 4 wv i) = some (eptf 4 wv i j) := fun i hi j => hw.faddr hi
  by_cases e : (W.getD i default).s = (W.getD k default).s
  · simp (disch := omega) [vf64, hw.one, hw.stor, eq_true e, hw.at hi, hw.at hk, fa i hi, fa k hk, wr_get hw, wr_load hw, lpId_ept, lpId_eptf]
    refine ref_tight (v := W.getD i default) (w := W.getD k default) (g4 i hi) (g4 k hk) (m := r) g2 ?_
    simp; simpa [clashB, eq_true e] using hK
  · simp (disch := omega) [vf64, hw.one, hw.stor, eq_false e, hw.at hi, hw.at hk, fa i hi, fa k hk, wr_get hw, wr_load hw, lpId_ept, lpId_eptf]
    simpa [clashB, eq_false e] using hK
theorem plot_Clash (hw : LstV wrC H wv W) (hi : I64 i) (hk : I64 k) (hK : K (.tup [.bool (clashP ⟨W, r, c⟩ i k).1, .int .i64 (clashP ⟨W, r, c⟩ i k).2]) H) : VCall tbl lim 40 [.agg [wv, .int .i64 r, .int .i64 c], .int .i64 i, .int .i64 k] H K := by
  refine VCall_fn tbl_at40 rfl ?_
  simp [vf40, hw.one, hw.stor]
  refine plot_Validate hw ?_
  by_cases hval : valP ⟨W, r, c⟩ = 0
  · obtain ⟨g1, g2, g3, g4, g5⟩ := valP_ok hval
    simp [hval, hw.len]
    refine cond_bool (fun hb => ?_) fun hb => ?_
    · have : i < 0 ∨ k < 0 ∨ (W.length : Int) ≤ i ∨ (W.length : Int) ≤ k := by simp at hb; omega
      simp
      simpa [clashP, hval, this] using hK
    · have hin : ¬ (i < 0 ∨ k < 0 ∨ (W.length : Int) ≤ i ∨ (W.length : Int) ≤ k) := by simp at hb; omega
      have i1 : i.toNat < W.length := by omega
      have k1 : k.toNat < W.length := by omega
      simp (disch := omega) [hw.addr, wr_load hw, hw.stor, lpId_ept]
      refine plot_clash (v := W.getD i.toNat default) (w := W.getD k.toNat default) hw (g4 _ i1) (g4 _ k1) g2 ?_
      simp
      simpa [clashP, hval, hin] using hK
  · simp [hval]
    simpa [clashP, hval] using hK
end
end Go.Proofs.Ytkmcdiajcnejiaa.Vm
