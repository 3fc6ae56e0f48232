/- Package plot over the machine: which plays are valid. -/
import Derived.Test.YtkmcdiajcnejiaaPlA
namespace Go.Proofs.Ytkmcdiajcnejiaa.Vm
open Go
set_option maxRecDepth 100000
set_option linter.unusedSimpArgs false
set_option linter.unusedVariables false
attribute [-simp] List.getD_eq_getElem?_getD
theorem valP_many {p : Ply} (h : 16 < p.W.length) : valP p = 4 := by simp [valP, h]
section
variable {lim : Nat} {H : Hp} {K : V → Hp → Prop} {wv : V} {W : List Wr} {r c : Int}
theorem plot_Validate (hw : LstV wrC H wv W) (hK : K (.int .i64 (valP ⟨W, r, c⟩)) H) : VCall tbl lim 61 [.agg [wv, .int .i64 r, .int .i64 c]] H K := by
  refine VCall_fn tbl_at61 rfl ?_
  have e1 : decide (16 < (W.length : Int)) = decide (16 < W.length) := by simp only [decide_eq_decide]; omega
  simp [vf61, hw.len, hw.one, e1]
  refine cond_dec (fun h => ?_) fun h => ?_
  · simp; simpa [valP, h] using hK
  simp only [valP, h, if_false] at hK
  simp
  refine plot_isMinute ?_
  by_cases hm : (minB r && minB c) = false
  · simp only [hm, if_true] at hK
    cases hr : minB r with
    | false => simp; exact hK
    | true =>
      have hc : minB c = false := by simpa [hr] using hm
      simp
      refine plot_isMinute ?_
      simp [hc]; exact hK
  · simp only [hm, if_false] at hK
    have hm : minB r = true ∧ minB c = true := by simpa using hm
    simp [hm.1]
    refine plot_isMinute ?_
    simp [hm.2, hw.len]
    have hc := hm.2
    simp only [minB, decide_eq_true_eq] at hc
    refine wLoop_up W.length (fun i fr L H' => (fr 1 = .lp 0 0 ∧ fr 24 = wv ∧ fr 25 = .int .i64 W.length ∧ fr 26 = .int .i64 i) ∧ L[0]? = some [wv, .int .i64 r, .int .i64 c] ∧ H' = H ∧ allN (fun i => wrB (W.getD i default)) i = true) ⟨by simp, rfl, rfl, rfl⟩ ?_
    rintro i hi fr L H' ⟨⟨f1, f24, f25, f26⟩, l0, e0, hz⟩
    have e0 := e0.symm
    subst e0
    simp [f1, f24, f25, f26]
    refine cond_dec (fun ht => ?_) fun hfl => ?_
    · have ht : i < W.length := by omega
      simp (disch := omega) [f1, f24, f25, f26, hw.at ht, wr_load hw, lastO, lastS, splice44, iz4]
      refine cond_bool (fun hb => ?_) fun hb => ?_
      · have := allN_not (f := fun i => wrB (W.getD i default)) ht (by simp only [wrB, decide_eq_false_iff_not]; simp at hb; omega)
        simp only [this, if_true] at hK
        simp; simpa using hK
      · have e : wrB (W.getD i default) = true := by simp only [wrB, decide_eq_true_eq]; simp at hb; omega
        simp (disch := omega) [f1, f24, f25, f26, wrap_i64, allN, e, hz, keepL l0]
        omega
    have : i = W.length := by omega
    subst this
    simp only [hz, Bool.true_eq_false, if_false] at hK
    simp [f1, l0, hw.len]
    refine wLoop_up W.length (fun i fr L H' => (fr 1 = .lp 0 0 ∧ fr 67 = wv ∧ fr 68 = .int .i64 W.length ∧ fr 69 = .int .i64 i) ∧ L[0]? = some [wv, .int .i64 r, .int .i64 c] ∧ H' = H ∧ allN (fun i => allN (fun k => !oneB ⟨W, r, c⟩ i k) i) i = true) ⟨by simp [f1, hw.len], l0, rfl, rfl⟩ ?_
    clear f1 f24 f25 f26 l0
    rintro i hi fr L H' ⟨⟨f1, f67, f68, f69⟩, l0, e0, hz2⟩
    have e0 := e0.symm
    subst e0
    simp [f1, f67, f68, f69]
    refine cond_dec (fun ht => ?_) fun hfl => ?_
    · have ht : i < W.length := by omega
      have hs := hw.sub (a := 0) (b := i) ⟨by omega, by omega⟩
      simp only [List.drop_zero, Nat.sub_zero] at hs
      have hsl : (W.take i).length = i := by simp; omega
      have hbd := hw.subW (a := 0) (b := i) ⟨by omega, by omega⟩ (by omega) (vbounds_hi (k := .i64) (by omega))
      simp (disch := omega) [f1, f67, f68, f69, hw.at ht, wr_load hw, lastO, lastS, splice44, iz4, l0, keepL l0, hbd, hs.len, hsl]
      refine wLoop_up i (fun k fr L' H' => (fr 1 = .lp 0 0 ∧ fr 67 = wv ∧ fr 68 = .int .i64 W.length ∧ fr 69 = .int .i64 i ∧ fr 77 = subV wv 0 i ∧ fr 78 = .int .i64 i ∧ fr 79 = .int .i64 k ∧ fr 6 = .lp L.length 0) ∧ L'[0]? = some [wv, .int .i64 r, .int .i64 c] ∧ L'[L.length]? = some (W.getD i default).cells ∧ H' = H ∧ allN (fun k => !oneB ⟨W, r, c⟩ i k) k = true) ⟨by simp [f1, f67, f68, f69, hsl], keepL l0 _, by simp [Wr.cells], rfl, rfl⟩ ?_
      clear f1 f67 f68 f69
      rintro k hk fr L' H' ⟨⟨f1, f67, f68, f69, f77, f78, f79, f6⟩, l0', lq, e0, hz3⟩
      have e0 := e0.symm
      subst e0
      simp [f1, f67, f68, f69, f77, f78, f79, f6]
      refine cond_dec (fun ht2 => ?_) fun hfl2 => ?_
      · have ht2 : k < i := by omega
        have hk2 : k < (W.take i).length := by omega
        simp (disch := omega) [f1, f67, f68, f69, f77, f78, f79, f6, hs.at hk2, wr_load hs, lastO, lastS, splice44, iz4, l0', keepL l0', lq, keepL lq, getD_take ht2, Wr.cells]
        have hwi := allN_at hz ht
        have hwk := allN_at hz (i := k) (by omega)
        by_cases ha : (W.getD i default).a = (W.getD k default).a
        · simp [eq_true ha]
          refine plot_meet (v := W.getD i default) (w := W.getD k default) hwi hwk (m := c) hc ?_
          simp
          refine cond_bool (fun hb => ?_) fun hb => ?_
          · have := allN_not (f := fun i => allN (fun k => !oneB ⟨W, r, c⟩ i k) i) ht (allN_not ht2 (by simp [oneB, eq_true ha, hb]))
            simp only [this, if_true] at hK
            simp; simpa using hK
          · have ho : oneB ⟨W, r, c⟩ i k = false := by simp [oneB, eq_true ha, hb]
            simp (disch := omega) [f1, f67, f68, f69, f77, f78, f79, f6, wrap_i64, allN, hz3, ho, keepL l0', keepL lq, Wr.cells]
            omega
        · simp [eq_false ha]
          have ho : oneB ⟨W, r, c⟩ i k = false := by simp [oneB, eq_false ha]
          simp (disch := omega) [f1, f67, f68, f69, f77, f78, f79, f6, wrap_i64, allN, hz3, ho, keepL l0', keepL lq, Wr.cells]
          omega
      · have : k = i := by omega
        subst this
        simp (disch := omega) [f1, f67, f68, f69, f77, f78, f79, f6, wrap_i64, allN, hz2, hz3, l0']
        omega
    · have : i = W.length := by omega
      subst this
      simp only [hz2, Bool.true_eq_false, if_false] at hK
      simp; exact hK
theorem ref_Validate (hw : LstV wrC H wv W) (hK : K (.int .i64 (valP ⟨W, r, c⟩)) H) : VCall tbl lim 63 [.agg [wv, .int .i64 r, .int .i64 c]] H K := by
  refine VCall_fn tbl_at63 rfl ?_
  have e1 : decide (16 < (W.length : Int)) = decide (16 < W.length) := by simp only [decide_eq_decide]; omega
  simp [vf63, hw.len, hw.one, e1]
  refine cond_dec (fun h => ?_) fun h => ?_
  · simp; simpa [valP, h] using hK
  simp only [valP, h, if_false] at hK
  simp
  refine ref_within ?_
  have em : ∀ n, decide (0 ≤ n ∧ n ≤ 600) = minB n := fun _ => rfl
  rw [em]
  by_cases hm : (minB r && minB c) = false
  · simp only [hm, if_true] at hK
    cases hr : minB r with
    | false => simp; exact hK
    | true =>
      have hc : minB c = false := by simpa [hr] using hm
      simp
      refine ref_within ?_
      rw [em]
      simp [hc]; exact hK
  · simp only [hm, if_false] at hK
    have hm : minB r = true ∧ minB c = true := by simpa using hm
    simp [hm.1]
    refine ref_within ?_
    rw [em]
    simp [hm.2, hw.len]
    have hc := hm.2
    simp only [minB, decide_eq_true_eq] at hc
    refine wLoop_up W.length (fun i fr L H' => (fr 1 = .lp 0 0 ∧ fr 3 = .int .i64 i) ∧ L[0]? = some [wv, .int .i64 r, .int .i64 c] ∧ H' = H ∧ allN (fun i => wrB (W.getD i default)) i = true) ⟨by simp, rfl, rfl, rfl⟩ ?_
    rintro i hi fr L H' ⟨⟨f1, f3⟩, l0, e0, hz⟩
    have e0 := e0.symm
    subst e0
    simp [f1, f3, l0, hw.len]
    refine cond_dec (fun ht => ?_) fun hfl => ?_
    · have ht : i < W.length := by omega
      have hno : wrB (W.getD i default) = false → K (.int .i64 1) H := fun e => by
        have := allN_not (f := fun i => wrB (W.getD i default)) ht e
        have hK := hK
        simp only [this, if_true, Bool.true_eq_false, if_false] at hK
        exact hK
      simp (disch := omega) [f1, f3, l0, hw.at ht, wr_load hw, lastO, lastS, splice44, iz4]
      refine ref_within ?_
      by_cases h1 : 0 ≤ (W.getD i default).a ∧ (W.getD i default).a ≤ 99
      · simp [h1]
        refine ref_within ?_
        by_cases h2 : 1 ≤ (W.getD i default).s ∧ (W.getD i default).s ≤ 99
        · simp [h2, lastO]
          refine cond_bool (fun hb => ?_) fun hb => ?_
          · simp
            exact hno (by simp only [wrB, decide_eq_false_iff_not]; simp at hb; omega)
          · have e : wrB (W.getD i default) = true := by simp only [wrB, decide_eq_true_eq]; simp at hb; omega
            simp (disch := omega) [f1, f3, wrap_i64, allN, e, hz, keepL l0]
            omega
        · simp [h2]
          exact hno (by simp only [wrB, decide_eq_false_iff_not]; omega)
      · simp [h1]
        exact hno (by simp only [wrB, decide_eq_false_iff_not]; omega)
    have : i = W.length := by omega
    subst this
    simp only [hz, Bool.true_eq_false, if_false] at hK
    simp [f1, l0, hw.len]
    refine wLoop_up W.length (fun i fr L H' => (fr 1 = .lp 0 0 ∧ fr 5 = .int .i64 i) ∧ L[0]? = some [wv, .int .i64 r, .int .i64 c] ∧ H' = H ∧ allN (fun i => allN (fun k => !oneB ⟨W, r, c⟩ i k) i) i = true) ⟨by simp [f1], l0, rfl, rfl⟩ ?_
    clear f1 f3 l0
    rintro i hi fr L H' ⟨⟨f1, f5⟩, l0, e0, hz2⟩
    have e0 := e0.symm
    subst e0
    simp [f1, f5, l0, hw.len]
    refine cond_dec (fun ht => ?_) fun hfl => ?_
    · have ht : i < W.length := by omega
      simp
      refine wLoop_up i (fun k fr L' H' => (fr 1 = .lp 0 0 ∧ fr 5 = .int .i64 i ∧ fr 6 = .int .i64 k) ∧ L'[0]? = some [wv, .int .i64 r, .int .i64 c] ∧ H' = H ∧ allN (fun k => !oneB ⟨W, r, c⟩ i k) k = true) ⟨by simp [f1, f5], l0, rfl, rfl⟩ ?_
      clear f1 f5
      rintro k hk fr L' H' ⟨⟨f1, f5, f6⟩, l0', e0, hz3⟩
      have e0 := e0.symm
      subst e0
      simp [f1, f5, f6]
      refine cond_dec (fun ht2 => ?_) fun hfl2 => ?_
      · have ht2 : k < i := by omega
        have hk2 : k < W.length := by omega
        have hwi := allN_at hz ht
        have hwk := allN_at hz (i := k) (by omega)
        have fa : ∀ i, i < W.length → ∀ j, vfaddr j (ept 4 wv i) = some (eptf 4 wv i j) := fun i hi j => hw.faddr hi
        simp (disch := omega) [f1, f5, f6, l0', hw.at ht, hw.at hk2, fa i ht, fa k hk2, wr_get hw, wr_load hw, lpId_ept, lpId_eptf]
        by_cases ha : (W.getD i default).a = (W.getD k default).a
        · simp (disch := omega) [eq_true ha, f1, f5, f6, l0', hw.at ht, hw.at hk2, fa i ht, fa k hk2, wr_get hw, wr_load hw, lpId_ept, lpId_eptf]
          refine ref_tight (v := W.getD i default) (w := W.getD k default) hwi hwk (m := c) hc ?_
          simp
          refine cond_bool (fun hb => ?_) fun hb => ?_
          · have := allN_not (f := fun i => allN (fun k => !oneB ⟨W, r, c⟩ i k) i) ht (allN_not ht2 (by simp [oneB, eq_true ha, hb]))
            simp only [this, if_true] at hK
            simp; simpa using hK
          · have ho : oneB ⟨W, r, c⟩ i k = false := by simp [oneB, eq_true ha, hb]
            simp (disch := omega) [f1, f5, f6, wrap_i64, allN, hz3, ho, l0']
            omega
        · simp (disch := omega) [eq_false ha, f1, f5, f6, l0', hw.at ht, hw.at hk2, fa i ht, fa k hk2, wr_get hw, wr_load hw, lpId_ept, lpId_eptf]
          have ho : oneB ⟨W, r, c⟩ i k = false := by simp [oneB, eq_false ha]
          simp (disch := omega) [f1, f5, f6, wrap_i64, allN, hz3, ho, l0']
          omega
      · have : k = i := by omega
        subst this
        simp (disch := omega) [f1, f5, f6, wrap_i64, allN, hz2, hz3, l0']
        omega
    · have : i = W.length := by omega
      subst this
      simp only [hz2, Bool.true_eq_false, if_false] at hK
      simp; exact hK
end
end Go.Proofs.Ytkmcdiajcnejiaa.Vm
