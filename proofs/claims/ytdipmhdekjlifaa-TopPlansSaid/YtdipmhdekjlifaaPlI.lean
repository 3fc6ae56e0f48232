/- Package plot over the machine: which plans are right. -/
import Derived.Test.YtdipmhdekjlifaaPlH
namespace Go.Proofs.Ytdipmhdekjlifaa.Vm
open Go
set_option maxRecDepth 100000
set_option linter.unusedSimpArgs false
set_option linter.unusedVariables false
attribute [-simp] List.getD_eq_getElem?_getD
def leftL (S : List Int) (Q : List Slt) (n : Nat) : List Int := (List.range S.length).map fun d => S.getD d 0 - dayS Q d n
theorem leftL_len {S : List Int} {Q : List Slt} {n : Nat} : (leftL S Q n).length = S.length := by simp [leftL]
theorem leftL_0 {S : List Int} {Q : List Slt} : leftL S Q 0 = S := by
  refine ext_getD leftL_len fun k hk => ?_
  rw [leftL_len] at hk
  rw [leftL, getD_map_range hk]; simp [dayS]
theorem leftL_get {S : List Int} {Q : List Slt} {n d : Nat} (h : d < S.length) : (leftL S Q n).getD d 0 = S.getD d 0 - dayS Q d n := by rw [leftL, getD_map_range h]
theorem leftL_set {S : List Int} {Q : List Slt} {n d : Nat} (hd : (Q.getD n default).d = d) (h : d < S.length) (hm : (Q.getD n default).m ≤ 40000) : (leftL S Q n).set d (S.getD d 0 - dayS Q d n - (Q.getD n default).m) = leftL S Q (n + 1) := by
  rw [leftL, map_range_set h, leftL]
  apply List.map_congr_left
  intro e he
  simp only [dayS, hd, capM]
  by_cases h1 : e = d
  · subst h1; rw [if_pos rfl, if_pos rfl]; omega
  · rw [if_neg h1, if_neg (by omega)]; omega
def wkL (Q : List Slt) (n : Nat) : List Int := (List.range 8).map fun j : Nat => jobS Q (j : Int) n
theorem wkL_len {Q : List Slt} {n : Nat} : (wkL Q n).length = 8 := by simp [wkL]
theorem wkL_0 {Q : List Slt} : zs 8 = wkL Q 0 := rfl
theorem wkL_get {Q : List Slt} {n j : Nat} (h : j < 8) : (wkL Q n).getD j 0 = jobS Q j n := by rw [wkL, getD_map_range h]
theorem wkL_set {Q : List Slt} {n j : Nat} (hj : (Q.getD n default).j = j) (h : j < 8) (hm : (Q.getD n default).m ≤ 40000) : (wkL Q n).set j (jobS Q j n + (Q.getD n default).m) = wkL Q (n + 1) := by
  rw [wkL, map_range_set h, wkL]
  apply List.map_congr_left
  intro e he
  simp only [jobS, hj, capM]
  by_cases h1 : e = j
  · subst h1; rw [if_pos rfl, if_pos rfl]; omega
  · rw [if_neg h1, if_neg (by omega)]; omega
theorem planP_over {S : List Int} {J : List Jb} {Q : List Slt} (hval : valJ S J = 0) (hsl : firstE (fun i => slotE S J (Q.getD i default)) Q.length = 0) (htw : allN (fun i => allN (fun k => !sameB Q i k) i) Q.length = true)
    {i d : Nat} (hi : i < Q.length) (hd : (Q.getD i default).d = d) (hdS : d < S.length) (h : S.getD d 0 - dayS Q d i < (Q.getD i default).m) : planP S J Q = 10 := by
  have hm : ∀ k, k < Q.length → 1 ≤ (Q.getD k default).m := fun k hk => (slotE_ok (firstE_zero hsl hk)).2.2.1
  have h1 : dayS Q d (i + 1) ≤ dayS Q d Q.length := dayS_mono hm (by omega)
  have h2 := (dayS_nn (Q := Q) (d := d) (n := i) fun k hk => hm k (by omega)).1
  have h3 := (valJ_ok hval).2.2.1 d hdS
  have h4 : S.getD d 0 < dayS Q d (i + 1) := by simp only [dayS, hd, if_true, capM]; omega
  have := allN_not (f := fun d => decide (dayS Q d Q.length ≤ S.getD d 0)) hdS (by simp only [decide_eq_false_iff_not]; omega)
  simp only [planP, hval, ne_eq, not_true_eq_false, if_false, hsl, htw, Bool.true_eq_false, this, if_true]
theorem vstore_last3 {lim : Nat} {X : Lo} {H : Hp} {a b c x y z : V} : vstore lim (X ++ [[x, y, z]]) H (.lp X.length 0) (.agg [a, b, c]) 3 = some (X ++ [[a, b, c]], H) := by simp [vstore]
section
variable {lim : Nat} {H : Hp} {K : V → Hp → Prop} {sv jv qv : V} {S : List Int} {J : List Jb} {Q : List Slt} {x y : Int} {q : Slt}
theorem plot_CheckPlan (hs : SlV H sv S) (hj : LstV jbC H jv J) (hq : SltsV H qv Q) (hQ : Q.length ≤ 1000) (hlim : lim ≤ H.length) (hK : ∀ H', HX H H' → K (.int .i64 (planP S J Q)) H') : VCall tbl lim 47 [sv, jv, qv] H K := by
  refine VCall_fn tbl_at47 rfl ?_
  obtain ⟨hq, hq64⟩ := hq
  simp [vf47, hs.stor, hj.stor, hq.stor]
  refine plot_ValidateJobs hs hj ?_
  by_cases hval : valJ S J = 0
  case neg =>
    have := hK H HX.refl
    simp [hval]; simpa [planP, hval] using this
  obtain ⟨g1, g2, g3, g4⟩ := valJ_ok hval
  simp [hval, hq.len]
  refine wLoop_up Q.length (fun i fr L H' => (fr 0 = sv ∧ fr 1 = jv ∧ fr 2 = qv ∧ fr 28 = qv ∧ fr 29 = .int .i64 Q.length ∧ fr 30 = .int .i64 i) ∧ H' = H ∧ firstE (fun i => slotE S J (Q.getD i default)) i = 0) ⟨by simp [hq.len], rfl, rfl⟩ ?_
  rintro i hi fr L H' ⟨⟨f0, f1, f2, f28, f29, f30⟩, e0, hsl⟩
  have e0 := e0.symm
  subst e0
  simp [f0, f1, f2, f28, f29, f30]
  refine cond_dec (fun ht => ?_) fun hfl => ?_
  · have ht : i < Q.length := by omega
    simp (disch := omega) [f0, f1, f2, f28, f29, f30, hq.at ht, sl_load hq, lastO, lastS, splice33, hs.stor, hj.stor]
    refine plot_checkSlot (q := Q.getD i default) hs hj ?_
    by_cases he : slotE S J (Q.getD i default) = 0
    · simp (disch := omega) [f0, f1, f2, f28, f29, f30, he, wrap_i64, firstE, hsl]
      omega
    · have e2 := firstE_at (f := fun i => slotE S J (Q.getD i default)) hsl he ht
      have := hK H HX.refl
      simp only [planP, hval, ne_eq, not_true_eq_false, if_false, e2, he, not_false_eq_true, if_true] at this
      simp [he]; exact this
  have : i = Q.length := by omega
  subst this
  have hm : ∀ k, k < Q.length → 1 ≤ (Q.getD k default).m := fun k hk => (slotE_ok (firstE_zero hsl hk)).2.2.1
  have hok : ∀ k, k < Q.length → (0 ≤ (Q.getD k default).d ∧ (Q.getD k default).d < S.length) ∧ (0 ≤ (Q.getD k default).j ∧ (Q.getD k default).j < J.length) := fun k hk => ⟨(slotE_ok (firstE_zero hsl hk)).1, (slotE_ok (firstE_zero hsl hk)).2.1⟩
  simp [f0, f1, f2, hq.len]
  refine wLoop_up Q.length (fun i fr L' H' => (fr 0 = sv ∧ fr 1 = jv ∧ fr 2 = qv ∧ fr 42 = qv ∧ fr 43 = .int .i64 Q.length ∧ fr 44 = .int .i64 i ∧ fr 11 = .lp L.length 0) ∧ L'[L.length]? = some (tkL Q i) ∧ H' = H ∧ allN (fun i => allN (fun k => !sameB Q i k) i) i = true) ⟨by simp [f0, f1, f2, hq.len], by rw [← tkL_0]; simp, rfl, rfl⟩ ?_
  clear f0 f1 f2 f28 f29 f30
  rintro i hi fr L' H' ⟨⟨f0, f1, f2, f42, f43, f44, f11⟩, lq, e0, htw⟩
  have e0 := e0.symm
  subst e0
  simp [f0, f1, f2, f42, f43, f44, f11]
  refine cond_dec (fun ht => ?_) fun hfl => ?_
  · have ht : i < Q.length := by omega
    obtain ⟨o1, o2⟩ := hok i ht
    have hc : (Q.getD i default).d.toNat * 8 + (Q.getD i default).j.toNat < 480 := by omega
    have lqn := (List.getElem?_eq_some_iff.1 lq).1
    by_cases htk : tkN Q i ((Q.getD i default).d.toNat * 8 + (Q.getD i default).j.toNat) = true
    · obtain ⟨k, hk1, hk2⟩ := tkN_iff.1 htk
      obtain ⟨o3, o4⟩ := hok k (by omega)
      have hsb : sameB Q i k = true := by simp only [sameB, Bool.and_eq_true, decide_eq_true_eq]; omega
      have e7 : planP S J Q = 7 := by
        have := allN_not (f := fun i => allN (fun k => !sameB Q i k) i) ht (allN_not (f := fun k => !sameB Q i k) hk1 (by simp [hsb]))
        simp only [planP, hval, ne_eq, not_true_eq_false, if_false, hsl, this, if_true]
      have := hK H HX.refl
      rw [e7] at this
      simp (disch := omega) [f0, f1, f2, f42, f43, f44, f11, hq.at ht, sl_load hq, lastO, lastS, splice33, keepL lq, tkL_rd hc, htk]
      exact this
    · have hno : ∀ k, k < i → sameB Q i k = false := by
        intro k hk
        obtain ⟨o3, o4⟩ := hok k (by omega)
        cases hsb : sameB Q i k with
        | false => rfl
        | true =>
          exfalso
          simp only [sameB, Bool.and_eq_true, decide_eq_true_eq] at hsb
          exact htk (tkN_iff.2 ⟨k, hk, by rw [hsb.1, hsb.2]⟩)
      have hall : allN (fun k => !sameB Q i k) i = true := allN_of fun k hk => by simp [hno k hk]
      have hst : ∀ c : List V, (L'.set L.length (tkL Q (i + 1)) ++ [c])[L.length]? = some (tkL Q (i + 1)) := fun c => by
        rw [List.getElem?_append_left (by simpa using lqn)]; simp [lqn]
      have hvs : ∀ c : List V, vstore lim (L' ++ [c]) H (.lp L.length ((Q.getD i default).d.toNat * 8 + (Q.getD i default).j.toNat)) (.bool true) 1 = some (L'.set L.length (tkL Q (i + 1)) ++ [c], H) := fun c => by
        have : (Q.getD i default).d.toNat * 8 + (Q.getD i default).j.toNat + 1 ≤ 480 := hc
        simp [vstore, keepL lq, tkL_len, this, tkL_set hc]
        exact List.set_append_left _ _ lqn
      simp (disch := omega) [f0, f1, f2, f42, f43, f44, f11, hq.at ht, sl_load hq, lastO, lastS, splice33, keepL lq, tkL_rd hc, htk, vstore_last3, hvs, wrap_i64, allN, htw, hall, hst, -vstore]
      omega
  have : i = Q.length := by omega
  subst this
  simp [f0, f1, f2, hs.stor]
  refine clone_ints hs hlim (by omega) fun H1 v1 x1 o1 => ?_
  replace x1 : HX H H1 := x1
  have l1 := x1.len
  simp [f0, f1, f2, hq.len]
  refine wLoop_up Q.length (fun i fr L' H' => (fr 0 = sv ∧ fr 1 = jv ∧ fr 2 = qv ∧ fr 64 = qv ∧ fr 65 = .int .i64 Q.length ∧ fr 66 = .int .i64 i ∧ fr 14 = v1) ∧ HX H H' ∧ OwnV H.length H' v1 (leftL S Q i) ∧ (∀ d, d < S.length → dayS Q d i ≤ S.getD d 0) ∧ ∀ k, k < i → (Q.getD k default).m ≤ 1440) ⟨by simp [f0, f1, f2, hq.len], x1, by rw [leftL_0]; exact o1, fun d hd => by have := g3 d hd; simp only [dayS]; omega, fun k hk => absurd hk (by omega)⟩ ?_
  clear f0 f1 f2 f42 f43 f44 f11 o1
  rintro i hi fr L2 H2 ⟨⟨f0, f1, f2, f64, f65, f66, f14⟩, x2, o2, hle, hm2⟩
  have hq2 := hq.mono x2
  simp [f0, f1, f2, f64, f65, f66, f14]
  refine cond_dec (fun ht => ?_) fun hfl => ?_
  · have ht : i < Q.length := by omega
    obtain ⟨q1, q2⟩ := hok i ht
    obtain ⟨d, hd⟩ := Int.eq_ofNat_of_zero_le q1.1
    have hdS : d < S.length := by omega
    have a1 := o2.sl.addr (i := d) (by rw [leftL_len]; omega)
    simp only [Int.toNat_natCast] at a1
    have hld := o2.sl.load (i := d) (L := L2 ++ [(Q.getD i default).cells]) (by rw [leftL_len]; omega)
    rw [leftL_get hdS] at hld
    simp only [Slt.cells, hd] at hld
    have hg := hle d hdS
    have hg3 := g3 d hdS
    have hnn := (dayS_nn (Q := Q) (d := d) (n := i) fun k hk => hm k (by omega)).1
    have h64 := hq64 i ht
    unfold Slt.in64 I64 at h64
    have hmi := hm i ht
    simp (disch := omega) [f0, f1, f2, f64, f65, f66, f14, hq.at ht, sl_load hq2, lastO, lastS, splice33, hd, a1, hld, lpId_ept]
    refine cond_dec (fun hc => ?_) fun hc => ?_
    · have e10 := planP_over hval hsl htw ht hd hdS hc
      have := hK H2 x2
      rw [e10] at this
      simp; exact this
    · have hst := o2.store (lim := lim) (i := d) (x := S.getD d 0 - dayS Q d i - (Q.getD i default).m) (L := L2 ++ [(Q.getD i default).cells]) ⟨hlim, by rw [leftL_len]; omega⟩
      simp only [Slt.cells, hd] at hst
      rw [leftL_set hd hdS (by omega)] at hst
      simp (disch := omega) [f0, f1, f2, f64, f65, f66, f14, lastO, hd, a1, hld, lpId_ept, wrap_i64, hst, -vstore]
      refine ⟨by omega, setH_X x2 o2 (Nat.le_refl _), o2.put (by rw [leftL_len, leftL_len]), fun d' hd' => ?_, fun k hk => ?_⟩
      · have := hle d' hd'
        simp only [dayS, capM, hd]
        split
        · rename_i e; have e : d = d' := by omega
          subst e; omega
        · omega
      · by_cases e : k = i
        · subst e; omega
        · exact hm2 k (by omega)
  have : i = Q.length := by omega
  subst this
  have hov : allN (fun d => decide (dayS Q d Q.length ≤ S.getD d 0)) S.length = true := allN_of fun d hd => decide_eq_true (hle d hd)
  have hP : planP S J Q = if allN (fun j => decide (jobS Q j Q.length = (J.getD j default).w)) J.length = false then 6 else 0 := by
    simp only [planP, hval, ne_eq, not_true_eq_false, if_false, hsl, htw, Bool.true_eq_false, hov]
  have hK2 := hK H2 x2
  rw [hP] at hK2
  have hj2 := hj.mono x2
  simp [f0, f1, f2, hq.len]
  refine wLoop_up Q.length (fun i fr L' H' => (fr 1 = jv ∧ fr 88 = qv ∧ fr 89 = .int .i64 Q.length ∧ fr 90 = .int .i64 i ∧ fr 17 = .lp L2.length 0) ∧ L'[L2.length]? = some (ints (wkL Q i)) ∧ H' = H2) ⟨by simp [f0, f1, f2, hq.len], by rw [← wkL_0]; simp, rfl⟩ ?_
  clear f0 f1 f2 f64 f65 f66 f14 hK
  rintro i hi fr L' H' ⟨⟨f1, f88, f89, f90, f17⟩, lq, e0⟩
  have e0 := e0.symm
  subst e0
  simp [f1, f88, f89, f90, f17]
  refine cond_dec (fun ht => ?_) fun hfl => ?_
  · have ht : i < Q.length := by omega
    obtain ⟨q1, q2⟩ := hok i ht
    obtain ⟨j, hjj⟩ := Int.eq_ofNat_of_zero_le q2.1
    have hj8 : j < 8 := by omega
    have lqn := (List.getElem?_eq_some_iff.1 lq).1
    have hb := jobS_nn (Q := Q) (d := j) (n := i) fun k hk => hm k (by omega)
    have hmi := hm i ht
    have hmu := hm2 i ht
    have hws := wkL_set hjj hj8 (by omega)
    have hwl : (wkL Q i).length = 8 := wkL_len
    have hst : ∀ c : List V, (L'.set L2.length (ints (wkL Q (i + 1))) ++ [c])[L2.length]? = some (ints (wkL Q (i + 1))) := fun c => by
      rw [List.getElem?_append_left (by simpa using lqn)]; simp [lqn]
    have hvs : ∀ c : List V, vstore lim (L' ++ [c]) H2 (.lp L2.length j) (.int .i64 (jobS Q j i + (Q.getD i default).m)) 1 = some (L'.set L2.length (ints (wkL Q (i + 1))) ++ [c], H2) := fun c => by
      rw [vstore_lp_int (keepL lq c) (by omega), hws, List.set_append_left _ _ lqn]
    simp (disch := omega) [f1, f88, f89, f90, f17, hq.at ht, sl_load hq2, lastO, lastS, splice33, vstore_last3, hjj, keepL lq, rd_ints, wkL_get, wrap_i64, hvs, hst, -vstore]
    omega
  have : i = Q.length := by omega
  subst this
  simp [f1, hj.len]
  refine wLoop_up J.length (fun i fr L' H' => (fr 103 = jv ∧ fr 104 = .int .i64 J.length ∧ fr 105 = .int .i64 i ∧ fr 17 = .lp L2.length 0) ∧ L'[L2.length]? = some (ints (wkL Q Q.length)) ∧ H' = H2 ∧ allN (fun j => decide (jobS Q j Q.length = (J.getD j default).w)) i = true) ⟨by simp [f1, hj.len, f17], lq, rfl, rfl⟩ ?_
  clear f1 f88 f89 f90 f17 lq
  rintro i hi fr L' H' ⟨⟨f103, f104, f105, f17⟩, lq, e0, hz⟩
  have e0 := e0.symm
  subst e0
  simp [f103, f104, f105, f17]
  refine cond_dec (fun ht => ?_) fun hfl => ?_
  · have ht : i < J.length := by omega
    have hwl : (wkL Q Q.length).length = 8 := wkL_len
    simp (disch := omega) [f103, f104, f105, f17, hj.at ht, jb_load hj2, lastO, lastS, splice33, keepL lq, rd_ints, wkL_get]
    refine cond_ndec (fun hc => ?_) fun hc => ?_
    · have := allN_not (f := fun j => decide (jobS Q j Q.length = (J.getD j default).w)) ht (by simp [hc])
      simp only [this, if_true] at hK2
      simp; exact hK2
    · simp (disch := omega) [f103, f104, f105, f17, wrap_i64, allN, hz, eq_true hc, keepL lq]
      omega
  have : i = J.length := by omega
  subst this
  simp only [hz, Bool.true_eq_false, if_false] at hK2
  simp; exact hK2
end
end Go.Proofs.Ytdipmhdekjlifaa.Vm
