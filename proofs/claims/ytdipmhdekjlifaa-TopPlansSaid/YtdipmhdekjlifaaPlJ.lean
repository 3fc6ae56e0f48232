/- Package plot over the machine: which plans are right, by the document; PlotJobs. -/
import Derived.Test.YtdipmhdekjlifaaPlI
namespace Go.Proofs.Ytdipmhdekjlifaa.Vm
open Go
set_option maxRecDepth 100000
set_option linter.unusedSimpArgs false
set_option linter.unusedVariables false
attribute [-simp] List.getD_eq_getElem?_getD
def rngL (f : Int → Nat → Int) (m n : Nat) : List Int := (List.range m).map fun d : Nat => f (d : Int) n
theorem rngL_len {f : Int → Nat → Int} {m n : Nat} : (rngL f m n).length = m := by simp [rngL]
theorem rngL_get {f : Int → Nat → Int} {m n d : Nat} (h : d < m) : (rngL f m n).getD d 0 = f d n := by rw [rngL, getD_map_range h]
theorem rngL_0 {f : Int → Nat → Int} {m : Nat} (h : ∀ d, f d 0 = 0) : zs m = rngL f m 0 := by
  refine ext_getD (by simp [rngL]) fun k hk => ?_
  rw [zs_getD, rngL_get (by simpa using hk), h]
theorem rngL_set {f : Int → Nat → Int} {m n d : Nat} {x : Int} (h : d < m) (h1 : f d (n + 1) = x) (h2 : ∀ e : Nat, e ≠ d → f e (n + 1) = f e n) : (rngL f m n).set d x = rngL f m (n + 1) := by
  rw [rngL, map_range_set h, rngL]
  apply List.map_congr_left
  intro e he
  by_cases c : e = d
  · subst c; rw [if_pos rfl, h1]
  · rw [if_neg c, h2 e c]
theorem HX.setB {H H' : Hp} (hx : HX H H') {b : Nat} (hb : H.length ≤ b) {x : Blk} : HX H (H'.set b x) :=
  HX.of (by rw [List.length_set]; exact hx.len) fun i hi => by rw [List.getElem?_set_ne (by omega), hx.same hi]
section
variable {lim : Nat} {H : Hp} {K : V → Hp → Prop} {sv jv qv : V} {S : List Int} {J : List Jb} {Q : List Slt} {x y : Int} {q : Slt}
theorem row_addr {b m : Nat} {i : Int} (h : 0 ≤ i ∧ i < m) : viaddrS 1 (.sl b 0 m 1) (.int .i64 i) = some (.ptr b i.toNat) := by
  rw [viaddrS_in (by omega)]; simp
theorem row_store {b i : Nat} {x : Int} {l : List Int} {L : Lo} (hb : H[b]? = some (.row (ints l) true)) (hl : lim ≤ b) (hi : i < l.length) : vstore lim L H (.ptr b i) (.int .i64 x) 1 = some (L, H.set b (.row (ints (l.set i x)) true)) := by
  have : i + 1 ≤ l.length := hi
  simp [vstore, vstoreH, hb, hl, this, splice_ints_one hi]
theorem row_load {b i : Nat} {l : List Int} {own : Bool} {L : Lo} (hb : H[b]? = some (.row (ints l) own)) (hi : i < l.length) : vload none L H (.ptr b i) = some (.int .i64 (l.getD i 0)) := by
  rw [vload_ptr hb, rd_ints hi]
theorem ref_CheckPlan (hs : SlV H sv S) (hj : LstV jbC H jv J) (hq : SltsV H qv Q) (hQ : Q.length ≤ 1000) (hlim : lim ≤ H.length) (hK : ∀ H', HX H H' → K (.int .i64 (planP S J Q)) H') : VCall tbl lim 48 [sv, jv, qv] H K := by
  refine VCall_fn tbl_at48 rfl ?_
  obtain ⟨hq, hq64⟩ := hq
  simp [vf48, hs.stor, hj.stor, hq.stor]
  refine ref_ValidateJobs hs hj ?_
  by_cases hval : valJ S J = 0
  case neg =>
    have := hK H HX.refl
    simp [hval]; simpa [planP, hval] using this
  obtain ⟨g1, g2, g3, g4⟩ := valJ_ok hval
  have fj : ∀ i, i < J.length → ∀ j, vfaddr j (ept 3 jv i) = some (eptf 3 jv i j) := fun i hi j => hj.faddr hi
  have fq : ∀ i, i < Q.length → ∀ j, vfaddr j (ept 3 qv i) = some (eptf 3 qv i j) := fun i hi j => hq.faddr hi
  simp [hval, hq.len]
  refine wLoop_up Q.length (fun i fr L H' => (fr 0 = sv ∧ fr 1 = jv ∧ fr 2 = qv ∧ fr 8 = .int .i64 i) ∧ H' = H ∧ firstE (fun i => slotE S J (Q.getD i default)) i = 0) ⟨by simp, rfl, rfl⟩ ?_
  rintro i hi fr L H' ⟨⟨f0, f1, f2, f8⟩, e0, hsl⟩
  have e0 := e0.symm
  subst e0
  simp [f0, f1, f2, f8, hq.len]
  refine cond_dec (fun ht => ?_) fun hfl => ?_
  · have ht : i < Q.length := by omega
    have hbad : slotE S J (Q.getD i default) ≠ 0 → K (.int .i64 (slotE S J (Q.getD i default))) H := fun he => by
      have e2 := firstE_at (f := fun i => slotE S J (Q.getD i default)) hsl he ht
      have := hK H HX.refl
      simp only [planP, hval, ne_eq, not_true_eq_false, if_false, e2, he, not_false_eq_true, if_true] at this
      exact this
    simp (disch := omega) [f0, f1, f2, f8, hq.at ht, sl_load hq, lastO, lastS, splice33, hs.len, hj.len]
    refine cond_bool (fun hb => ?_) fun hb => ?_
    · have he : slotE S J (Q.getD i default) = 5 := by
        have : (Q.getD i default).d < 0 ∨ (S.length : Int) ≤ (Q.getD i default).d ∨ (Q.getD i default).j < 0 ∨ (J.length : Int) ≤ (Q.getD i default).j := by simp at hb; omega
        simp only [slotE, this, if_true]
      rw [he] at hbad
      simp; exact hbad (by omega)
    have hin : ¬ ((Q.getD i default).d < 0 ∨ (S.length : Int) ≤ (Q.getD i default).d ∨ (Q.getD i default).j < 0 ∨ (J.length : Int) ≤ (Q.getD i default).j) := by simp at hb; omega
    have hjn : (Q.getD i default).j.toNat < J.length := by omega
    have hE : slotE S J (Q.getD i default) = if (Q.getD i default).m < 1 ∨ (Q.getD i default).d < (J.getD (Q.getD i default).j.toNat default).r ∨ (J.getD (Q.getD i default).j.toNat default).d < (Q.getD i default).d then 1 else 0 := by simp only [slotE, hin, if_false]
    by_cases h1 : (Q.getD i default).m < 1
    · simp only [h1, true_or, if_true] at hE
      rw [hE] at hbad
      simp (disch := omega) [f0, f1, f2, f8, lastO, h1]
      exact hbad (by omega)
    by_cases h2 : (Q.getD i default).d < (J.getD (Q.getD i default).j.toNat default).r
    · simp only [h1, h2, true_or, or_true, if_true] at hE
      rw [hE] at hbad
      simp (disch := omega) [f0, f1, f2, f8, lastO, h1, hj.addr, fj _ hjn, jb_get hj, lpId_eptf, h2]
      exact hbad (by omega)
    by_cases h3 : (J.getD (Q.getD i default).j.toNat default).d < (Q.getD i default).d
    · simp only [h1, h2, h3, true_or, or_true, if_true] at hE
      rw [hE] at hbad
      simp (disch := omega) [f0, f1, f2, f8, lastO, h1, hj.addr, fj _ hjn, jb_get hj, lpId_eptf, h2, h3]
      exact hbad (by omega)
    · simp only [h1, h2, h3, or_false, if_false] at hE
      simp (disch := omega) [f0, f1, f2, f8, lastO, h1, hj.addr, fj _ hjn, jb_get hj, lpId_eptf, h2, h3, wrap_i64, firstE, hsl, hE]
      omega
  have : i = Q.length := by omega
  subst this
  have hm : ∀ k, k < Q.length → 1 ≤ (Q.getD k default).m := fun k hk => (slotE_ok (firstE_zero hsl hk)).2.2.1
  have hok : ∀ k, k < Q.length → (0 ≤ (Q.getD k default).d ∧ (Q.getD k default).d < S.length) ∧ (0 ≤ (Q.getD k default).j ∧ (Q.getD k default).j < J.length) := fun k hk => ⟨(slotE_ok (firstE_zero hsl hk)).1, (slotE_ok (firstE_zero hsl hk)).2.1⟩
  simp
  refine wLoop_up Q.length (fun i fr L' H' => (fr 0 = sv ∧ fr 1 = jv ∧ fr 2 = qv ∧ fr 10 = .int .i64 i) ∧ H' = H ∧ allN (fun i => allN (fun k => !sameB Q i k) i) i = true) ⟨by simp [f0, f1, f2], rfl, rfl⟩ ?_
  clear f0 f1 f2 f8
  rintro i hi fr L' H' ⟨⟨f0, f1, f2, f10⟩, e0, htw⟩
  have e0 := e0.symm
  subst e0
  simp [f0, f1, f2, f10, hq.len]
  refine cond_dec (fun ht => ?_) fun hfl => ?_
  · have ht : i < Q.length := by omega
    simp
    refine wLoop_up i (fun k fr L' H' => (fr 0 = sv ∧ fr 1 = jv ∧ fr 2 = qv ∧ fr 10 = .int .i64 i ∧ fr 11 = .int .i64 k) ∧ H' = H ∧ allN (fun k => !sameB Q i k) k = true) ⟨by simp [f0, f1, f2, f10], rfl, rfl⟩ ?_
    clear f0 f1 f2 f10
    rintro k hk fr L' H' ⟨⟨f0, f1, f2, f10, f11⟩, e0, hz⟩
    have e0 := e0.symm
    subst e0
    simp [f0, f1, f2, f10, f11]
    refine cond_dec (fun ht2 => ?_) fun hfl2 => ?_
    · have ht2 : k < i := by omega
      have hkQ : k < Q.length := by omega
      by_cases h1 : (Q.getD k default).d = (Q.getD i default).d
      · simp (disch := omega) [f0, f1, f2, f10, f11, hq.at ht, hq.at hkQ, fq i ht, fq k hkQ, sl_get hq, lpId_eptf, eq_true h1]
        refine cond_dec (fun hc => ?_) fun hc => ?_
        · have hsb : sameB Q i k = true := by simp [sameB, eq_true h1, eq_true hc]
          have e7 : planP S J Q = 7 := by
            have := allN_not (f := fun i => allN (fun k => !sameB Q i k) i) ht (allN_not (f := fun k => !sameB Q i k) ht2 (by simp [hsb]))
            simp only [planP, hval, ne_eq, not_true_eq_false, if_false, hsl, this, if_true]
          have := hK H HX.refl
          rw [e7] at this
          simp; exact this
        · have hsb : sameB Q i k = false := by simp [sameB, eq_false hc]
          simp (disch := omega) [f0, f1, f2, f10, f11, wrap_i64, allN, hz, hsb]
          omega
      · have hsb : sameB Q i k = false := by simp [sameB, eq_false h1]
        simp (disch := omega) [f0, f1, f2, f10, f11, hq.at ht, hq.at hkQ, fq i ht, fq k hkQ, sl_get hq, lpId_eptf, eq_false h1, wrap_i64, allN, hz, hsb]
        omega
    · have : k = i := by omega
      subst this
      simp (disch := omega) [f0, f1, f2, f10, f11, wrap_i64, allN, hz, htw]
      omega
  have : i = Q.length := by omega
  subst this
  simp (disch := omega) [f0, f1, f2, hs.len, hj.len]
  have dz : ∀ d, dayS Q d 0 = 0 := fun _ => rfl
  have jz : ∀ d, jobS Q d 0 = 0 := fun _ => rfl
  refine wLoop_up Q.length (fun i fr L' H' => (fr 0 = sv ∧ fr 1 = jv ∧ fr 2 = qv ∧ fr 14 = .int .i64 i ∧ fr 12 = .sl H.length 0 S.length 1 ∧ fr 13 = .sl (H.length + 1) 0 J.length 1) ∧ HX H H' ∧ H'[H.length]? = some (.row (ints (rngL (dayS Q) S.length i)) true) ∧ H'[H.length + 1]? = some (.row (ints (rngL (jobS Q) J.length i)) true)) ⟨by simp [f0, f1, f2], ⟨_, by simp; rfl⟩, by rw [← rngL_0 dz]; simp, by rw [← rngL_0 jz]; simp⟩ ?_
  clear f0 f1 f2 f10
  rintro i hi fr L2 H2 ⟨⟨f0, f1, f2, f14, f12, f13⟩, x2, r1, r2⟩
  have hq2 := hq.mono x2
  have r1l := (List.getElem?_eq_some_iff.1 r1).1
  have r2l := (List.getElem?_eq_some_iff.1 r2).1
  simp [f0, f1, f2, f14, hq.len]
  refine cond_dec (fun ht => ?_) fun hfl => ?_
  · have ht : i < Q.length := by omega
    obtain ⟨q1, q2⟩ := hok i ht
    obtain ⟨d, hd⟩ := Int.eq_ofNat_of_zero_le q1.1
    obtain ⟨j, hjj⟩ := Int.eq_ofNat_of_zero_le q2.1
    have hdS : d < S.length := by omega
    have hjS : j < J.length := by omega
    have b1 := dayS_nn (Q := Q) (d := d) (n := i) fun k hk => hm k (by omega)
    have b2 := jobS_nn (Q := Q) (d := j) (n := i) fun k hk => hm k (by omega)
    have hmi := hm i ht
    have s1 := rngL_set (f := dayS Q) (m := S.length) (n := i) (d := d) (x := dayS Q d i + capM (Q.getD i default)) hdS (by simp [dayS, hd]) (fun e he => by simp only [dayS, hd]; rw [if_neg (by omega)]; omega)
    have s2 := rngL_set (f := jobS Q) (m := J.length) (n := i) (d := j) (x := jobS Q j i + capM (Q.getD i default)) hjS (by simp [jobS, hjj]) (fun e he => by simp only [jobS, hjj]; rw [if_neg (by omega)]; omega)
    have v1 : ∀ L, vload none L H2 (.ptr H.length d) = some (.int .i64 (dayS Q d i)) := fun L => by rw [row_load r1 (by rw [rngL_len]; omega), rngL_get hdS]
    have w1 : ∀ L, vstore lim L H2 (.ptr H.length d) (.int .i64 (dayS Q d i + capM (Q.getD i default))) 1 = some (L, H2.set H.length (.row (ints (rngL (dayS Q) S.length (i + 1))) true)) := fun L => by rw [row_store r1 hlim (by rw [rngL_len]; omega), s1]
    have r2' : (H2.set H.length (.row (ints (rngL (dayS Q) S.length (i + 1))) true))[H.length + 1]? = some (.row (ints (rngL (jobS Q) J.length i)) true) := by rw [List.getElem?_set_ne (by omega)]; exact r2
    have v2 : ∀ L, vload none L (H2.set H.length (.row (ints (rngL (dayS Q) S.length (i + 1))) true)) (.ptr (H.length + 1) j) = some (.int .i64 (jobS Q j i)) := fun L => by rw [row_load r2' (by rw [rngL_len]; omega), rngL_get hjS]
    have w2 : ∀ L, vstore lim L (H2.set H.length (.row (ints (rngL (dayS Q) S.length (i + 1))) true)) (.ptr (H.length + 1) j) (.int .i64 (jobS Q j i + capM (Q.getD i default))) 1 = some (L, (H2.set H.length (.row (ints (rngL (dayS Q) S.length (i + 1))) true)).set (H.length + 1) (.row (ints (rngL (jobS Q) J.length (i + 1))) true)) := fun L => by
      rw [row_store r2' (by omega) (by rw [rngL_len]; omega), s2]
    have hq3 := hq.mono (x2.setB (b := H.length) (by omega) (x := .row (ints (rngL (dayS Q) S.length (i + 1))) true))
    have ec : min (Q.getD i default).m 40000 = capM (Q.getD i default) := rfl
    have ec2 : 1 ≤ capM (Q.getD i default) ∧ capM (Q.getD i default) ≤ 40000 := by unfold capM; omega
    simp (disch := omega) [f0, f1, f2, f14, f12, f13, hq.at ht, fq i ht, sl_get hq2, sl_get hq3, hd, hjj, row_addr, ec, wrap_i64, v1, w1, v2, w2, -vstore, -vload_ptrO]
    refine ⟨by omega, (x2.setB (by omega)).setB (by omega), ?_⟩
    simp [r1l, r2l]
  have : i = Q.length := by omega
  subst this
  have hK2 := hK H2 x2
  have hP : planP S J Q = if allN (fun d => decide (dayS Q d Q.length ≤ S.getD d 0)) S.length = false then 10 else if allN (fun j => decide (jobS Q j Q.length = (J.getD j default).w)) J.length = false then 6 else 0 := by
    simp only [planP, hval, ne_eq, not_true_eq_false, if_false, hsl, htw, Bool.true_eq_false]
  rw [hP] at hK2
  have hs2 := hs.mono x2
  have hj2 := hj.mono x2
  simp
  refine wLoop_up S.length (fun i fr L' H' => (fr 0 = sv ∧ fr 1 = jv ∧ fr 16 = .int .i64 i ∧ fr 12 = .sl H.length 0 S.length 1 ∧ fr 13 = .sl (H.length + 1) 0 J.length 1) ∧ H' = H2 ∧ allN (fun d => decide (dayS Q d Q.length ≤ S.getD d 0)) i = true) ⟨by simp [f0, f1, f12, f13], rfl, rfl⟩ ?_
  clear f0 f1 f2 f14 f12 f13 hK
  rintro i hi fr L' H' ⟨⟨f0, f1, f16, f12, f13⟩, e0, hz⟩
  have e0 := e0.symm
  subst e0
  simp [f0, f1, f16, f12, f13, hs.len]
  refine cond_dec (fun ht => ?_) fun hfl => ?_
  · have ht : i < S.length := by omega
    have v1 : ∀ L, vload none L H2 (.ptr H.length i) = some (.int .i64 (dayS Q i Q.length)) := fun L => by rw [row_load r1 (by rw [rngL_len]; omega), rngL_get ht]
    have a1 := hs.addr (i := i) (by omega)
    simp only [Int.toNat_natCast] at a1
    simp (disch := omega) [f0, f1, f16, f12, f13, a1, hs2.load, lpId_ept, row_addr, v1, -vload_ptrO]
    refine cond_dec (fun hc => ?_) fun hc => ?_
    · have := allN_not (f := fun d => decide (dayS Q d Q.length ≤ S.getD d 0)) ht (by simp only [decide_eq_false_iff_not]; omega)
      simp only [this, if_true] at hK2
      simp; exact hK2
    · simp (disch := omega) [f0, f1, f16, f12, f13, wrap_i64, allN, hz]
      omega
  have : i = S.length := by omega
  subst this
  simp only [hz, Bool.true_eq_false, if_false] at hK2
  simp
  refine wLoop_up J.length (fun i fr L' H' => (fr 1 = jv ∧ fr 17 = .int .i64 i ∧ fr 13 = .sl (H.length + 1) 0 J.length 1) ∧ H' = H2 ∧ allN (fun j => decide (jobS Q j Q.length = (J.getD j default).w)) i = true) ⟨by simp [f1, f13], rfl, rfl⟩ ?_
  clear f0 f1 f16 f12 f13
  rintro i hi fr L' H' ⟨⟨f1, f17, f13⟩, e0, hz2⟩
  have e0 := e0.symm
  subst e0
  simp [f1, f17, f13, hj.len]
  refine cond_dec (fun ht => ?_) fun hfl => ?_
  · have ht : i < J.length := by omega
    have v1 : ∀ L, vload none L H2 (.ptr (H.length + 1) i) = some (.int .i64 (jobS Q i Q.length)) := fun L => by rw [row_load r2 (by rw [rngL_len]; omega), rngL_get ht]
    simp (disch := omega) [f1, f17, f13, hj.at ht, fj i ht, jb_get hj2, lpId_eptf, row_addr, v1, -vload_ptrO]
    refine cond_ndec (fun hc => ?_) fun hc => ?_
    · have := allN_not (f := fun j => decide (jobS Q j Q.length = (J.getD j default).w)) ht (by simp [hc])
      simp only [this, if_true] at hK2
      simp; exact hK2
    · simp (disch := omega) [f1, f17, f13, wrap_i64, allN, hz2, eq_true hc]
      omega
  have : i = J.length := by omega
  subst this
  simp only [hz2, Bool.true_eq_false, if_false] at hK2
  simp; exact hK2
theorem law_PlotJobs {ws : List V} {p : Shp} (hv : ShpV H ws p) (hq : SltsV H qv Q) (hlim : lim ≤ H.length) (hK : ∀ H', K (.bool true) H') : VCall tbl lim 12 [.agg ws, qv] H K := by
  cases hv with
  | mk hs hj =>
    rename_i sv jv S J
    have e1 : decide (300 < (Q.length : Int)) = decide (300 < Q.length) := by simp only [decide_eq_decide]; omega
    refine VCall_fn tbl_at12 rfl ?_
    simp [vf12, hs.stor, hj.stor, hs.one]
    refine law_wide hs hj ?_
    by_cases hw : (decide (200 < S.length) || decide (30 < J.length)) = true
    · simp [hw]
      refine law_known hlim fun H1 _ => ?_
      simp; exact hK _
    simp [hw, hq.1.len, e1]
    refine cond_dec (fun h => ?_) fun h => ?_
    · simp
      refine law_known hlim fun H1 _ => ?_
      simp; exact hK _
    simp [hs.stor, hj.stor]
    refine plot_ValidateJobs hs hj ?_
    simp [hs.stor, hj.stor]
    refine ref_ValidateJobs hs hj ?_
    simp [hs.stor, hj.stor, hq.1.stor]
    refine plot_CheckPlan hs hj hq (by omega) (Nat.le_refl _) fun H1 x1 => ?_
    replace x1 : HX H H1 := x1
    have l1 := x1.len
    simp [hs.stor, hj.stor, hq.1.stor]
    refine ref_CheckPlan (hs.mono x1) (hj.mono x1) ⟨hq.1.mono x1, hq.2⟩ (by omega) (Nat.le_refl _) fun H2 x2 => ?_
    replace x2 : HX H1 H2 := x2
    have l2 := x2.len
    simp
    refine law_known (Nat.le_refl _) fun H3 _ => ?_
    simp; exact hK _
end
end Go.Proofs.Ytdipmhdekjlifaa.Vm
