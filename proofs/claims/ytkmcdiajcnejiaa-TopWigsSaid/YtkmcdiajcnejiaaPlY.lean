/- Package plot over the machine: the document's Used for an assignment that is right; PlotLeast. -/
import Derived.Test.YtkmcdiajcnejiaaPlX
namespace Go.Proofs.Ytkmcdiajcnejiaa.Vm
open Go
set_option maxRecDepth 100000
set_option maxHeartbeats 1000000
set_option linter.unusedSimpArgs false
set_option linter.unusedVariables false
attribute [-simp] List.getD_eq_getElem?_getD
section
variable {lim : Nat} {H : Hp} {K : V → Hp → Prop} {wv : V} {W : List Wr} {r c x y q u1 u2 u3 : Int} {v w : V} {wl : List Int} {T : Nat}
theorem ref_Check_ok (hw : LstV wrC H wv W) (hval : valP ⟨W, r, c⟩ = 0) (hv : SlV H v wl) (hU : UsedW ⟨W, r, c⟩ wl T) (hK : K (.int .i64 0) H) : VCall tbl lim 34 [.agg [wv, .int .i64 r, .int .i64 c], v] H K := by
  refine VCall_fn tbl_at34 rfl ?_
  obtain ⟨g1, g2, g3, g4, g5⟩ := valP_ok hval
  simp only at g1 g2 g3 g4 g5
  have hwl := hU.len
  simp only at hwl
  have hsz : ∀ i k, i < W.length → k < i → wl.getD i 0 = wl.getD k 0 → (W.getD i default).s = (W.getD k default).s := fun i k hi hk he => by
    have := hU.ok i k hi (by simp only; omega) (by omega) he
    simp only [clashB, Bool.or_eq_false_iff, decide_eq_false_iff_not] at this
    exact Classical.not_not.1 this.1
  simp [vf34, hw.stor, hw.one, hv.stor]
  refine ref_Validate hw ?_
  simp [hval, hw.len, hv.len, hwl]
  refine wLoop_up W.length (fun i fr L H' => (fr 2 = .lp 0 0 ∧ fr 1 = v ∧ fr 6 = .int .i64 i) ∧ L[0]? = some [wv, .int .i64 r, .int .i64 c] ∧ H' = H) ⟨by simp, rfl, rfl⟩ ?_
  rintro i hi fr L H' ⟨⟨f2, f1, f6⟩, l0, e0⟩
  have e0 := e0.symm
  subst e0
  simp [f2, f1, f6, hv.len, hwl]
  refine cond_dec (fun ht => ?_) fun hfl => ?_
  · have ht : i < W.length := by omega
    have ai := hv.addr (i := (i : Int)) (by omega)
    simp only [Int.toNat_natCast] at ai
    have hr0 := (hU.rng i ht).1
    simp (disch := omega) [f2, f1, f6, ai, hv.load, lpId_ept]
    refine cond_dec (fun hlt => by omega) fun hlt => ?_
    simp (disch := omega) [f2, f1, f6, l0, wrap_i64]
    omega
  clear hi hfl f6
  simp [f2, f1]
  refine wLoop_up W.length (fun i fr L H' => (fr 2 = .lp 0 0 ∧ fr 1 = v ∧ fr 7 = .int .i64 i) ∧ L[0]? = some [wv, .int .i64 r, .int .i64 c] ∧ H' = H) ⟨by simp [f2, f1], l0, rfl⟩ ?_
  clear f2 f1 l0
  rintro i hi fr L H' ⟨⟨f2, f1, f7⟩, l0, e0⟩
  have e0 := e0.symm
  subst e0
  simp [f2, f1, f7, hv.len, hwl]
  refine cond_dec (fun ht => ?_) fun hfl => ?_
  · have ht : i < W.length := by omega
    simp [f2, f1, f7]
    refine wLoop_up i (fun k fr L H' => (fr 2 = .lp 0 0 ∧ fr 1 = v ∧ fr 7 = .int .i64 i ∧ fr 8 = .int .i64 k) ∧ L[0]? = some [wv, .int .i64 r, .int .i64 c] ∧ H' = H) ⟨by simp [f2, f1, f7], l0, rfl⟩ ?_
    clear f2 f1 f7 l0
    rintro k hk fr L H' ⟨⟨f2, f1, f7, f8⟩, l0, e0⟩
    have e0 := e0.symm
    subst e0
    simp [f2, f1, f7, f8]
    refine cond_dec (fun ht2 => ?_) fun hfl2 => ?_
    · have ht2 : k < i := by omega
      have ai := hv.addr (i := (i : Int)) (by omega)
      have ak := hv.addr (i := (k : Int)) (by omega)
      simp only [Int.toNat_natCast] at ai ak
      have fi := hw.faddr (i := i) (j := 1) ht
      have fk := hw.faddr (i := k) (j := 1) (by omega)
      by_cases he : wl.getD i 0 = wl.getD k 0
      · have hs := hsz i k ht ht2 he
        simp (disch := omega) [f2, f1, f7, f8, ai, ak, hv.load, lpId_ept, lpId_eptf, eq_true he, l0, hw.at ht, hw.at (show k < W.length by omega), fi, fk, wr_get hw, hs, wrap_i64]
        omega
      · simp (disch := omega) [f2, f1, f7, f8, ai, ak, hv.load, lpId_ept, eq_false he, l0, wrap_i64]
        omega
    · have : k = i := by omega
      subst this
      simp (disch := omega) [f2, f1, f7, l0, wrap_i64]
      omega
  clear hi hfl f7
  simp [f2, f1]
  refine wLoop_up W.length (fun i fr L H' => (fr 2 = .lp 0 0 ∧ fr 1 = v ∧ fr 9 = .int .i64 i) ∧ L[0]? = some [wv, .int .i64 r, .int .i64 c] ∧ H' = H) ⟨by simp [f2, f1], l0, rfl⟩ ?_
  clear f2 f1 l0
  rintro i hi fr L H' ⟨⟨f2, f1, f9⟩, l0, e0⟩
  have e0 := e0.symm
  subst e0
  simp [f2, f1, f9, hv.len, hwl]
  refine cond_dec (fun ht => ?_) fun hfl => ?_
  · have ht : i < W.length := by omega
    simp [f2, f1, f9]
    refine wLoop_up i (fun k fr L H' => (fr 2 = .lp 0 0 ∧ fr 1 = v ∧ fr 9 = .int .i64 i ∧ fr 10 = .int .i64 k) ∧ L[0]? = some [wv, .int .i64 r, .int .i64 c] ∧ H' = H) ⟨by simp [f2, f1, f9], l0, rfl⟩ ?_
    clear f2 f1 f9 l0
    rintro k hk fr L H' ⟨⟨f2, f1, f9, f10⟩, l0, e0⟩
    have e0 := e0.symm
    subst e0
    simp [f2, f1, f9, f10]
    refine cond_dec (fun ht2 => ?_) fun hfl2 => ?_
    · have ht2 : k < i := by omega
      have ai := hv.addr (i := (i : Int)) (by omega)
      have ak := hv.addr (i := (k : Int)) (by omega)
      simp only [Int.toNat_natCast] at ai ak
      by_cases he : wl.getD i 0 = wl.getD k 0
      · have hcl := hU.ok i k ht (by simp only; omega) (by omega) he
        simp only at hcl
        simp (disch := omega) [f2, f1, f9, f10, ai, ak, hv.load, lpId_ept, eq_true he, l0, hw.stor]
        refine ref_clash hw hval ht (by omega) ?_
        rw [hcl]
        simp (disch := omega) [f2, f1, f9, f10, l0, wrap_i64]
        omega
      · simp (disch := omega) [f2, f1, f9, f10, ai, ak, hv.load, lpId_ept, eq_false he, l0, wrap_i64]
        omega
    · have : k = i := by omega
      subst this
      simp (disch := omega) [f2, f1, f9, l0, wrap_i64]
      omega
  · simp
    exact hK
theorem fstB_iff {i : Nat} : fstB wl i = false ↔ ∃ k, k < i ∧ wl.getD k 0 = wl.getD i 0 := by simp [fstB]
theorem ref_Used_ok (hw : LstV wrC H wv W) (hval : valP ⟨W, r, c⟩ = 0) (hv : SlV H v wl) (hU : UsedW ⟨W, r, c⟩ wl T) (hK : K (.tup [.int .i64 T, .int .i64 0]) H) : VCall tbl lim 32 [.agg [wv, .int .i64 r, .int .i64 c], v] H K := by
  refine VCall_fn tbl_at32 rfl ?_
  obtain ⟨g1, g2, g3, g4, g5⟩ := valP_ok hval
  simp only at g1 g2 g3 g4 g5
  have hwl := hU.len
  simp only at hwl
  simp [vf32, hw.stor, hw.one, hv.stor]
  refine ref_Check_ok hw hval hv hU ?_
  simp
  have cle : ∀ n, cnI (fstB wl) 0 n ≤ n := fun n => by
    induction n with
    | zero => exact Nat.le_refl _
    | succ n ih => simp only [cnI]; split <;> omega
  refine wLoop_up W.length (fun i fr L H' => (fr 1 = v ∧ fr 7 = .int .i64 (cnI (fstB wl) 0 i) ∧ fr 8 = .int .i64 i) ∧ H' = H) ⟨by simp [cnI], rfl⟩ ?_
  rintro i hi fr L H' ⟨⟨f1, f7, f8⟩, e0⟩
  have e0 := e0.symm
  subst e0
  have cli := cle i
  simp [f1, f7, f8, hv.len, hwl]
  refine cond_dec (fun ht => ?_) fun hfl => ?_
  · have ht : i < W.length := by omega
    simp [f1, f7, f8]
    refine wLoop_post 2 (fun fr L H' => (fr 1 = v ∧ fr 7 = .int .i64 (cnI (fstB wl) 0 i) ∧ fr 8 = .int .i64 i ∧ fr 9 = .int .i64 (if fstB wl i = true then 1 else 0)) ∧ H' = H) ?_ ?_
    · refine wLoop_up i (fun k fr L H' => ∃ z : Int, (fr 1 = v ∧ fr 7 = .int .i64 (cnI (fstB wl) 0 i) ∧ fr 8 = .int .i64 i ∧ fr 10 = .int .i64 k ∧ fr 9 = .int .i64 z) ∧ H' = H ∧ ((z = 1 ∧ ∀ j, j < k → wl.getD j 0 ≠ wl.getD i 0) ∨ (z = 0 ∧ ∃ j, j < k ∧ wl.getD j 0 = wl.getD i 0))) ⟨1, by simp [f1, f7, f8], rfl, Or.inl ⟨rfl, fun j hj => by omega⟩⟩ ?_
      clear f1 f7 f8
      rintro k hk fr L H' ⟨z, ⟨f1, f7, f8, f10, f9⟩, e0, hz⟩
      have e0 := e0.symm
      subst e0
      simp [f1, f7, f8, f10, f9]
      refine cond_dec (fun ht2 => ?_) fun hfl2 => ?_
      · have ht2 : k < i := by omega
        have ai := hv.addr (i := (i : Int)) (by omega)
        have ak := hv.addr (i := (k : Int)) (by omega)
        simp only [Int.toNat_natCast] at ai ak
        by_cases he : wl.getD k 0 = wl.getD i 0
        · simp (disch := omega) [f1, f7, f8, f10, f9, ai, ak, hv.load, lpId_ept, eq_true he, wrap_i64]
          exact ⟨by omega, k, by omega, he⟩
        · simp (disch := omega) [f1, f7, f8, f10, f9, ai, ak, hv.load, lpId_ept, eq_false he, wrap_i64]
          refine ⟨by omega, ?_⟩
          rcases hz with ⟨h1, h2⟩ | ⟨h1, j, h2, h3⟩
          · refine Or.inl ⟨h1, fun j hj => ?_⟩
            by_cases e : j = k
            · subst e; exact he
            · exact h2 j (by omega)
          · exact Or.inr ⟨h1, j, by omega, h3⟩
      · have : k = i := by omega
        subst this
        simp [f1, f7, f8, f9]
        rcases hz with ⟨h1, h2⟩ | ⟨h1, j, h2, h3⟩
        · have : fstB wl k = true := by
            cases hf : fstB wl k with
            | true => rfl
            | false => obtain ⟨j, h3, h4⟩ := fstB_iff.1 hf; exact absurd h4 (h2 j h3)
          rw [this, h1]; rfl
        · have : fstB wl k = false := fstB_iff.2 ⟨j, h2, h3⟩
          rw [this, h1]; rfl
    clear f1 f7 f8
    rintro fr L H2 ⟨⟨f1, f7, f8, f9⟩, e0⟩
    have e0 := e0.symm
    subst e0
    have hcn : cnI (fstB wl) 0 (i + 1) = cnI (fstB wl) 0 i + if fstB wl i = true then 1 else 0 := by simp only [cnI, Nat.zero_add]
    cases hf : fstB wl i with
    | true =>
      rw [hf] at f9 hcn
      simp only [if_true] at f9 hcn
      simp (disch := omega) [f1, f7, f8, f9, wrap_i64, hcn]
      omega
    | false =>
      rw [hf] at f9 hcn
      simp only [Bool.false_eq_true, if_false] at f9 hcn
      simp (disch := omega) [f1, f7, f8, f9, wrap_i64, hcn]
      omega
  · have : i = W.length := by omega
    subst this
    have hc := hU.cnt
    simp only at hc
    rw [hc] at f7
    simp [f7]
    exact hK
end
end Go.Proofs.Ytkmcdiajcnejiaa.Vm
