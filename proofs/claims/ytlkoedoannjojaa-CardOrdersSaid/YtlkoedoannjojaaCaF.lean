/- Package card over the machine: the document's Validate, Clock, CardValidates. -/
import Derived.Test.YtlkoedoannjojaaCaE
namespace Go.Proofs.Ytlkoedoannjojaa.Vm
open Go
set_option maxRecDepth 100000
set_option linter.unusedSimpArgs false
set_option linter.unusedVariables false
attribute [-simp] List.getD_eq_getElem?_getD
theorem cntE_take {c : List En} {q : Int} {i : Nat} : ∀ {n : Nat}, n ≤ i → cntE (c.take i) q n = cntE c q n
  | 0, _ => rfl
  | n + 1, h => by simp only [cntE, cntE_take (show n ≤ i by omega), getD_take (show n < i by omega)]
theorem cnts_take {c : List En} {i : Nat} (h : i ≤ c.length) : cntsL ((c.drop 0).take (i - 0)) ((c.drop 0).take (i - 0)).length = cntsL c i := by
  have e : (c.drop 0).take (i - 0) = c.take i := by simp
  rw [e]
  have e2 : (c.take i).length = i := by simp; omega
  rw [e2]
  simp only [cntsL, cntE_take (Nat.le_refl i)]
section
variable {lim : Nat} {H : Hp} {K : V → Hp → Prop} {v : V} {c : List En} {e f : En} {s : ByteArray} {n : Int}
theorem ref_Validate (hc : LstV enC H v c) (hsh : shortC c) (hK : K (.int .i64 (valE c)) H) : VCall tbl lim 16 [v] H K := by
  refine VCall_fn tbl_at16 rfl ?_
  have hcl := hsh.1
  rw [valE_def, show allN (okB c) c.length = (allN (okE1 c) c.length && allN (okE2 c) c.length) from allN_and] at hK
  by_cases h60 : 60 < c.length
  · simp only [h60, if_true] at hK
    simp [vf16, hc.len, show (60 : Int) < c.length by omega]
    exact hK
  simp only [h60, if_false] at hK
  simp [vf16, hc.len, show ¬ (60 : Int) < c.length by omega]
  refine wLoop_up c.length (fun i fr L H' => (fr 0 = v ∧ fr 3 = .int .i64 i) ∧ H' = H ∧ allN (okE1 c) i = true) ⟨by simp, rfl, rfl⟩ ?_
  rintro i hi fr L H' ⟨⟨f0, f3⟩, e0, hz⟩
  have e0 := e0.symm
  subst e0
  simp [f0, f3, hc.len]
  refine cond_dec (fun ht => ?_) fun hfl => ?_
  · have ht : i < c.length := by omega
    have hno : okE1 c i = false → K (.int .i64 1) H := fun e => by
      have hK := hK
      rw [allN_not ht e] at hK
      exact hK
    have hsz := hsh.2 i ht
    generalize hg : c.getD i default = g at hsz
    have hw : okE1 c i = (decide (0 ≤ g.p ∧ g.p ≤ 2) && rightB g.t) := by rw [← hg]; rfl
    by_cases h1 : g.p < 0
    · have h := hw
      rw [decide_eq_false (by omega)] at h
      simp (disch := omega) [f0, f3, hc.at ht, hc.faddr ht, en_get hc ht, hg, h1]
      exact hno h
    by_cases h2 : 2 < g.p
    · have h := hw
      rw [decide_eq_false (by omega)] at h
      simp (disch := omega) [f0, f3, hc.at ht, hc.faddr ht, en_get hc ht, hg, h1, h2]
      exact hno h
    simp (disch := omega) [f0, f3, hc.at ht, hc.faddr ht, en_get hc ht, hg, h1, h2]
    refine ref_Right (by omega) ?_
    rw [decide_eq_true (by omega), Bool.true_and] at hw
    cases h3 : rightB g.t
    · rw [h3] at hw
      simp
      exact hno hw
    · rw [h3] at hw
      simp (disch := omega) [f0, f3, wrap_i64, allN, hw, hz]
      omega
  have : i = c.length := by omega
  subst this
  simp only [hz, Bool.true_and] at hK
  have hpl : ∀ i, i < c.length → 0 ≤ (c.getD i default).p ∧ (c.getD i default).p ≤ 2 := fun i hi => by
    have := allN_at hz hi
    simp only [okE1, Bool.and_eq_true, decide_eq_true_eq] at this
    exact this.1
  simp [f0]
  refine wLoop_up c.length (fun i fr L H' => (fr 0 = v ∧ fr 4 = .int .i64 i) ∧ H' = H ∧ allN (okE2 c) i = true) ⟨by simp [f0], rfl, rfl⟩ ?_
  clear f0 f3
  rintro i hi fr L H' ⟨⟨f0, f4⟩, e0, hz2⟩
  have e0 := e0.symm
  subst e0
  simp [f0, f4, hc.len]
  refine cond_dec (fun ht => ?_) fun hfl => ?_
  · have ht : i < c.length := by omega
    have hno : okE2 c i = false → K (.int .i64 1) H := fun e => by
      have hK := hK
      rw [allN_not ht e] at hK
      exact hK
    have hbd := hc.subW (a := 0) (b := i) ⟨by omega, by omega⟩ (by omega) (vbounds_hi (k := .i64) (by omega))
    have hsb := hc.sub (a := 0) (b := i) ⟨by omega, by omega⟩
    have hle := @cntE_le c (c.getD i default).p i
    have hpi := hpl i ht
    have r1 := cnt_rd (c := c) (i := i) hpi
    have hw : okE2 c i = decide ((c.getD i default).s = cntE c (c.getD i default).p i + 1 ∧ prevP c i ≤ (c.getD i default).p) := Eq.trans rfl rfl
    simp (disch := omega) [f0, f4, hc.at ht, hc.faddr ht, en_get hc ht, hbd, hsb.stor]
    refine ref_clock hsb (by simp; omega) (fun j hj => ?_) ?_
    · have e : (c.drop 0).take (i - 0) = c.take i := by simp
      rw [e] at hj ⊢
      simp at hj
      rw [getD_take (by omega)]
      exact hpl j (by omega)
    rw [cnts_take hi]
    generalize hg : c.getD i default = g at hw hle hpi r1
    by_cases h1 : g.s = cntE c g.p i + 1
    · by_cases h2 : i = 0
      · subst h2
        have h : okE2 c 0 = true := by
          rw [hw]; exact decide_eq_true ⟨h1, by simp only [prevP, if_true]; omega⟩
        have a0 := hc.at ht
        simp only [Int.natCast_zero] at a0
        simp (disch := omega) [f0, f4, a0, hc.faddr ht, en_get hc ht, hg, r1, wrap_i64, eq_true h1, allN, h, hz2]
        exact ht
      · have hpv : prevP c i = (c.getD (i - 1) default).p := by simp [prevP, h2]
        have e1 : (i : Int) - 1 = ((i - 1 : Nat) : Int) := by omega
        have ht1 : i - 1 < c.length := by omega
        have a1 := hc.at ht1
        rw [← e1] at a1
        by_cases h3 : g.p < (c.getD (i - 1) default).p
        · have h : okE2 c i = false := by
            rw [hw]; exact decide_eq_false (by rw [hpv]; omega)
          simp (disch := omega) [f0, f4, hc.at ht, hc.faddr ht, en_get hc ht, hg, r1, wrap_i64, eq_true h1, show 0 < i by omega, a1, hc.faddr ht1, en_get hc ht1, h3]
          exact hno h
        · have h : okE2 c i = true := by
            rw [hw]; exact decide_eq_true ⟨h1, by rw [hpv]; omega⟩
          simp (disch := omega) [f0, f4, hc.at ht, hc.faddr ht, en_get hc ht, hg, r1, wrap_i64, eq_true h1, show 0 < i by omega, a1, hc.faddr ht1, en_get hc ht1, h3, allN, h, hz2]
          omega
    · have h : okE2 c i = false := by
        rw [hw]; exact decide_eq_false (by omega)
      simp (disch := omega) [f0, f4, hc.at ht, hc.faddr ht, en_get hc ht, hg, r1, wrap_i64, eq_false h1]
      exact hno h
  have : i = c.length := by omega
  subst this
  simp only [hz2, Bool.true_eq_false, if_false] at hK
  have hnum : ∀ i, i < c.length → (c.getD i default).s = cntE c (c.getD i default).p i + 1 := fun i hi => by
    have := allN_at hz2 hi
    simp only [okE2, decide_eq_true_eq] at this
    exact this.1
  simp [f0]
  refine wLoop_up c.length (fun i fr L H' => (fr 0 = v ∧ fr 5 = .int .i64 i) ∧ H' = H ∧ allN (seB c) i = true) ⟨by simp [f0], rfl, rfl⟩ ?_
  clear f0 f4
  rintro i hi fr L H' ⟨⟨f0, f5⟩, e0, hz3⟩
  have e0 := e0.symm
  subst e0
  simp [f0, f5, hc.len]
  refine cond_dec (fun ht => ?_) fun hfl => ?_
  · have ht : i < c.length := by omega
    have hle := @cntE_le c (c.getD i default).p i
    have hnm := hnum i ht
    simp (disch := omega) [f0, f5, hc.at ht, en_load hc, hc.stor]
    refine ref_wrongly (e := c.getD i default) hc (by omega) hpl (hpl i ht) (by omega) ?_
    cases h : seenR c (c.getD i default)
    · simp
      rw [allN_not (f := seB c) ht h] at hK
      exact hK
    · have h : seB c i = true := h
      simp (disch := omega) [f0, f5, wrap_i64, allN, h, hz3]
      omega
  have : i = c.length := by omega
  subst this
  rw [hz3] at hK
  simp
  exact hK
end
end Go.Proofs.Ytlkoedoannjojaa.Vm
