/- Package plot over the machine: the laws on plans. -/
import Derived.Test.YtdipmhdekjlifaaPlO
namespace Go.Proofs.Ytdipmhdekjlifaa.Vm
open Go
set_option maxRecDepth 100000
set_option linter.unusedSimpArgs false
set_option linter.unusedVariables false
attribute [-simp] List.getD_eq_getElem?_getD
section
variable {lim : Nat} {H : Hp} {K : V → Hp → Prop} {sv jv qv : V} {S : List Int} {J : List Jb} {Q : List Slt} {x y : Int}
theorem spareR_neg {e : Int} (h : spareR S J x y = (e, 0)) (hneg : e < 0) : valJ S J = 0 ∧ 0 ≤ x ∧ x ≤ y ∧ y < S.length ∧ spareP S J x.toNat y.toNat < 0 := by
  unfold spareR at h
  split at h
  · rename_i h1
    simp only [Prod.mk.injEq] at h
    exact absurd h.2 h1
  rename_i h1
  split at h
  · rename_i h2
    simp only [Prod.mk.injEq] at h
    refine ⟨by simpa using h1, h2.1, h2.2.1, h2.2.2, by omega⟩
  · simp at h
theorem law_PlotExcludes {ws : List V} {p : Shp} (hv : ShpV H ws p) (hq : SltsV H qv Q) (hlim : lim ≤ H.length) (hx : I64 x) (hy : I64 y) (hK : ∀ H', K (.bool true) H') : VCall tbl lim 15 [.agg ws, .agg [.int .i64 x, .int .i64 y], qv] H K := by
  cases hv with
  | mk hs hj =>
    rename_i sv jv S J
    have e1 : decide (300 < (Q.length : Int)) = decide (300 < Q.length) := by simp only [decide_eq_decide]; omega
    refine VCall_fn tbl_at15 rfl ?_
    simp [vf15, hs.stor, hj.stor, hs.one]
    refine law_wide hs hj ?_
    by_cases hw : (decide (200 < S.length) || decide (30 < J.length)) = true
    · simp [hw]
      refine law_known hlim fun H1 _ => ?_
      simp; exact hK _
    simp [hw, hq.1.len, e1]
    refine cond_dec (fun h => ?_) fun h => ?_
    · simp
      refine law_known hlim fun H1 _ => ?_
      simp; exact hK _
    simp [hs.stor, hj.stor]
    refine plot_IsProof hs hj ?_
    simp
    refine cond_bool (fun hc => ?_) fun hc => ?_
    · simp
      refine law_known hlim fun H1 _ => ?_
      simp; exact hK _
    have hc : (spareR S J x y).2 = 0 ∧ (spareR S J x y).1 < 0 := by simp at hc; omega
    obtain ⟨hval, c1, c2, c3, c4⟩ := spareR_neg (e := (spareR S J x y).1) (by rw [← hc.1]) hc.2
    have hno : proofO S J ≠ none := fun h => by
      have := (proofO_none hval).1 h x.toNat y.toNat (by omega) (by omega)
      omega
    simp [hs.stor, hj.stor]
    refine plot_Plan hs hj hlim fun H1 v ok P x1 hp hr => ?_
    replace x1 : HX H H1 := x1
    have l1 := x1.len
    have hok : ok = false := by
      rcases hr with h | h | h
      · exact h.2.1
      · exact h.2.2.1
      · exact absurd h.2.1 hno
    subst hok
    simp [hval, hs.stor, hj.stor, hq.1.stor]
    refine plot_CheckPlan (hs.mono x1) (hj.mono x1) ⟨hq.1.mono x1, hq.2⟩ (by omega) (by omega) fun H2 x2 => ?_
    replace x2 : HX H1 H2 := x2
    have l2 := x2.len
    have hne : planP S J Q ≠ 0 := fun h => by
      have := plan_spare h (a := x.toNat) (b := y.toNat) ⟨by omega, by omega⟩
      omega
    simp [hne]
    refine law_known (by omega) fun H3 _ => ?_
    simp; exact hK _
theorem law_PlotPlans {ws : List V} {p : Shp} (hv : ShpV H ws p) (hlim : lim ≤ H.length) (hK : ∀ H', K (.bool true) H') : VCall tbl lim 13 [.agg ws] H K := by
  cases hv with
  | mk hs hj =>
    rename_i sv jv S J
    refine VCall_fn tbl_at13 rfl ?_
    simp [vf13, hs.stor, hj.stor, hs.one]
    refine law_wide hs hj ?_
    refine cond_bool (fun h => ?_) fun h => ?_
    · simp
      refine law_known hlim fun H1 _ => ?_
      simp; exact hK _
    simp [hs.stor, hj.stor]
    refine plot_Plan hs hj hlim fun H1 v ok P x1 hp hr => ?_
    replace x1 : HX H H1 := x1
    have l1 := x1.len
    simp [hs.stor, hj.stor]
    refine ref_Proof (hs.mono x1) (hj.mono x1) ?_
    rcases hr with ⟨h1, rfl, rfl⟩ | ⟨h1, h2, rfl, rfl⟩ | ⟨h1, h2, rfl, h3, h4, h5, h6⟩
    · have e : proofT S J = .tup [.int .i64 0, .int .i64 0, .bool false, .int .i64 (valJ S J)] := by simp only [proofT, proofO, h1, if_false]
      rw [e]
      simp [h1, hp.len]
      refine law_known (by omega) fun H3 _ => ?_
      simp; exact hK _
    · obtain ⟨ab, hab⟩ := Option.ne_none_iff_exists'.1 h2
      obtain ⟨a, b⟩ := ab
      have e : proofT S J = .tup [.int .i64 a, .int .i64 b, .bool true, .int .i64 0] := by simp only [proofT, hab]
      rw [e]
      simp [h1, hp.len]
      refine law_known (by omega) fun H3 _ => ?_
      simp; exact hK _
    · have e : proofT S J = .tup [.int .i64 0, .int .i64 0, .bool false, .int .i64 0] := by simp only [proofT, h2, h1]
      rw [e]
      have fp : ∀ i, i < P.length → ∀ j, vfaddr j (ept 3 v i) = some (eptf 3 v i j) := fun i hi j => hp.faddr hi
      simp [h1]
      refine wLoop_up (P.length - 1) (fun i fr L H' => (fr 1 = .lp 0 0 ∧ fr 3 = v ∧ fr 4 = .bool true ∧ fr 10 = .int .i64 ((i + 1 : Nat) : Int)) ∧ L = [[sv, jv]] ∧ H' = H1) ⟨by simp, rfl, rfl⟩ ?_
      rintro i hi fr L H' ⟨⟨f1, f3, f4, f10⟩, rfl, e0⟩
      have e0 := e0.symm
      subst e0
      simp [f1, f3, f4, f10, hp.len]
      refine cond_dec (fun ht => ?_) fun hfl => ?_
      · have ht : i + 1 < P.length := by omega
        have hlt := pw_getD h4 (show i < i + 1 by omega) ht
        have a1 := hp.at ht
        have a2 := hp.at (show i < P.length by omega)
        simp only [Int.natCast_add, Int.cast_ofNat_Int] at a1
        have ei : (i : Int) + 1 - 1 = i := by omega
        unfold ltQ at hlt
        by_cases hd : (P.getD (i + 1) default).d = (P.getD i default).d
        · have hjlt : ¬ (P.getD (i + 1) default).j ≤ (P.getD i default).j := by omega
          have hd2 : ¬ (P.getD (i + 1) default).d < (P.getD i default).d := by omega
          simp (disch := omega) [f1, f3, f4, f10, wrap_i64, ei, a1, a2, fp _ ht, fp i (by omega), sl_get hp, lpId_eptf, eq_true hd, hd2, hjlt]
          omega
        · have hd2 : ¬ (P.getD (i + 1) default).d < (P.getD i default).d := by omega
          simp (disch := omega) [f1, f3, f4, f10, wrap_i64, ei, a1, a2, fp _ ht, fp i (by omega), sl_get hp, lpId_eptf, eq_false hd, hd2]
          omega
      · simp [f1, f3, f4, f10, hs.stor, hj.stor, hp.stor]
        refine ref_CheckPlan (hs.mono x1) (hj.mono x1) ⟨hp, h6⟩ (by omega) (by omega) fun H2 x2 => ?_
        replace x2 : HX H1 H2 := x2
        have l2 := x2.len
        simp [h3]
        refine law_known (by omega) fun H3 _ => ?_
        simp; exact hK _
end
end Go.Proofs.Ytdipmhdekjlifaa.Vm
