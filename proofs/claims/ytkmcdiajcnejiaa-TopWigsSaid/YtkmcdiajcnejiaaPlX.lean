/- Package plot over the machine: Least, Assign; the document's Least and Used; PlotLeast. -/
import Derived.Test.YtkmcdiajcnejiaaPlW
namespace Go.Proofs.Ytkmcdiajcnejiaa.Vm
open Go
set_option maxRecDepth 100000
set_option maxHeartbeats 1000000
set_option linter.unusedSimpArgs false
set_option linter.unusedVariables false
attribute [-simp] List.getD_eq_getElem?_getD
def leP (p : Ply) : Int := if valP p = 0 then (leastP p : Int) else 0
section
variable {lim : Nat} {H : Hp} {K : V → Hp → Prop} {wv : V} {W : List Wr} {r c x y q u1 u2 u3 : Int} {v w : V}
theorem crw_len {p : Ply} {s a : Int} : crw p s a ≤ p.W.length := List.countP_le_length
theorem mxS_len {p : Ply} {s : Int} : mxS p s ≤ p.W.length := mxS_le fun w _ _ => crw_len
theorem mxN_len {p : Ply} {s : Int} {n : Nat} : mxN p s n ≤ p.W.length := mxN_le fun i _ _ => crw_len
theorem leN_len {p : Ply} : ∀ {n : Nat}, leN p n ≤ n * p.W.length
  | 0 => Nat.zero_le _
  | n + 1 => by
    rw [leN_step, Nat.succ_mul]
    have := leN_len (p := p) (n := n)
    have := mxS_len (p := p) (s := ((n + 1 : Nat) : Int))
    omega
theorem plot_Least (hw : LstV wrC H wv W) (hlim : lim ≤ H.length) (hK : ∀ H', HX H H' → K (.tup [.int .i64 (leP ⟨W, r, c⟩), .int .i64 (valP ⟨W, r, c⟩)]) H') : VCall tbl lim 35 [.agg [wv, .int .i64 r, .int .i64 c]] H K := by
  refine VCall_fn tbl_at35 rfl ?_
  simp [vf35, hw.stor, hw.one]
  refine plot_Validate hw ?_
  by_cases hval : valP ⟨W, r, c⟩ = 0
  · simp [hval, hw.stor]
    refine plot_assign hw hval hlim fun H' v wl hx ho hu => ?_
    simp
    have := hK H' hx
    simp only [leP, hval, if_true] at this
    exact this
  · simp [hval]
    have := hK H HX.refl
    simp only [leP, hval, if_false] at this
    exact this
theorem plot_Assign (hw : LstV wrC H wv W) (hlim : lim ≤ H.length) (hK : ∀ H' v wl, HX H H' → OwnV H.length H' v wl → (valP ⟨W, r, c⟩ = 0 → UsedW ⟨W, r, c⟩ wl (leastP ⟨W, r, c⟩)) → (valP ⟨W, r, c⟩ ≠ 0 → wl = []) → K (.tup [v, .int .i64 (valP ⟨W, r, c⟩)]) H') : VCall tbl lim 37 [.agg [wv, .int .i64 r, .int .i64 c]] H K := by
  refine VCall_fn tbl_at37 rfl ?_
  simp [vf37, hw.stor, hw.one]
  refine plot_Validate hw ?_
  by_cases hval : valP ⟨W, r, c⟩ = 0
  · simp [hval, hw.stor]
    refine plot_assign hw hval hlim fun H' v wl hx ho hu => ?_
    simp [ho.sl.stor]
    have := hK H' v wl hx ho (fun _ => hu) (fun h => absurd hval h)
    rw [hval] at this
    exact this
  · simp [hval]
    exact hK H .snil [] HX.refl .nil (fun h => absurd h hval) (fun _ => rfl)
end
end Go.Proofs.Ytkmcdiajcnejiaa.Vm
