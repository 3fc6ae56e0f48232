/- Package plot over the machine: TopPlans. -/
import Derived.Test.YtdipmhdekjlifaaPlQ
namespace Go.Proofs.Ytdipmhdekjlifaa.Vm
open Go
set_option maxRecDepth 100000
set_option linter.unusedSimpArgs false
set_option linter.unusedVariables false
attribute [-simp] List.getD_eq_getElem?_getD
section
variable {lim : Nat} {H : Hp} {K : V → Hp → Prop} {sv jv qv : V} {S : List Int} {J : List Jb} {Q : List Slt} {x y : Int}
theorem iz6 : ints (zs 6) = [.int .i64 0, .int .i64 0, .int .i64 0, .int .i64 0, .int .i64 0, .int .i64 0] := Eq.trans rfl rfl
theorem ex_proof : proofO [150] [⟨100, 0, 0⟩, ⟨100, 0, 0⟩] = some (0, 0) := by decide
theorem ex_val : valJ [150] [⟨100, 0, 0⟩, ⟨100, 0, 0⟩] = 0 := by decide
theorem law_TopPlans {ws : List V} {p : Shp} (hv : ShpV H ws p) (hq : SltsV H qv Q) (hlim : lim ≤ H.length) (hx : I64 x) (hy : I64 y) (hK : ∀ H', K (.bool true) H') : VCall tbl lim 18 [.agg ws, qv, .agg [.int .i64 x, .int .i64 y]] H K := by
  cases hv with
  | mk hs hj =>
    rename_i sv jv S J
    have e1 : decide (300 < (Q.length : Int)) = decide (300 < Q.length) := by simp only [decide_eq_decide]; omega
    have e2 : decide (200 < (S.length : Int)) = decide (200 < S.length) := by simp only [decide_eq_decide]; omega
    have e3 : decide (30 < (J.length : Int)) = decide (30 < J.length) := by simp only [decide_eq_decide]; omega
    refine VCall_fn tbl_at18 rfl ?_
    simp [vf18, hs.stor, hj.stor, hs.one, vbslice_some, splice, iz6, iz3]
    have r1 : (H ++ [Blk.row [V.int .i64 150] true, Blk.row [V.int .i64 100, V.int .i64 0, V.int .i64 0, V.int .i64 100, V.int .i64 0, V.int .i64 0] true])[H.length]? = some (.row [V.int .i64 150] true) := by rw [loAt0]; rfl
    have r2 : (H ++ [Blk.row [V.int .i64 150] true, Blk.row [V.int .i64 100, V.int .i64 0, V.int .i64 0, V.int .i64 100, V.int .i64 0, V.int .i64 0] true])[H.length + 1]? = some (.row [V.int .i64 100, V.int .i64 0, V.int .i64 0, V.int .i64 100, V.int .i64 0, V.int .i64 0] true) := by rw [loAt]; rfl
    have s1 : SlV _ (.sl H.length 0 1 1) [150] := SlV.lit (l := [150]) (by rw [r1]; rfl) rfl
    have s2 : LstV jbC _ (.sl (H.length + 1) 0 2 3) [⟨100, 0, 0⟩, ⟨100, 0, 0⟩] := LstV.sl (c := jbC) (l := [⟨100, 0, 0⟩, ⟨100, 0, 0⟩]) (off := 0) r2 (by decide) (by rfl)
    have x0 : HX H (H ++ [Blk.row [V.int .i64 150] true, Blk.row [V.int .i64 100, V.int .i64 0, V.int .i64 0, V.int .i64 100, V.int .i64 0, V.int .i64 0] true]) := ⟨_, rfl⟩
    generalize H ++ [Blk.row [V.int .i64 150] true, Blk.row [V.int .i64 100, V.int .i64 0, V.int .i64 0, V.int .i64 100, V.int .i64 0, V.int .i64 0] true] = H0 at *
    have l0 := x0.len
    refine plot_Proof s1 s2 ?_
    simp only [proofT, ex_proof]
    simp [hs.len, hj.len, hq.1.len, e1, e2, e3]
    refine cond_bool (fun h => ?_) fun h => ?_
    · simp; exact hK _
    have h : ¬ 200 < S.length ∧ ¬ 30 < J.length ∧ ¬ 300 < Q.length := by simp at h; omega
    have hs := hs.mono x0
    have hj := hj.mono x0
    have hq : SltsV H0 qv Q := ⟨hq.1.mono x0, hq.2⟩
    simp [hs.stor, hj.stor]
    refine plot_Plan hs hj (by omega) fun H1 v ok P x1 hp hr => ?_
    replace x1 : HX H0 H1 := x1
    have l1 := x1.len
    have hs1 := hs.mono x1
    have hj1 := hj.mono x1
    have hq1 : SltsV H1 qv Q := ⟨hq.1.mono x1, hq.2⟩
    simp [hs.stor, hj.stor]
    refine plot_Proof hs1 hj1 ?_
    rcases hr with ⟨h1, rfl, rfl⟩ | ⟨h1, h2, rfl, rfl⟩ | ⟨h1, h2, rfl, h3, h4, h5, h6⟩
    · have e : proofT S J = .tup [.int .i64 0, .int .i64 0, .bool false, .int .i64 (valJ S J)] := by simp only [proofT, proofO, h1, if_false]
      rw [e]
      simp [hs.stor, hj.stor, hq.1.stor]
      refine plot_CheckPlan hs1 hj1 hq1 (by omega) (by omega) fun H2 x2 => ?_
      have e4 : planP S J Q = valJ S J := by simp only [planP, h1, ne_eq, not_false_eq_true, if_true]
      simp [h1, e4]
      exact hK _
    · obtain ⟨ab, hab⟩ := Option.ne_none_iff_exists'.1 h2
      obtain ⟨a, b⟩ := ab
      have e : proofT S J = .tup [.int .i64 a, .int .i64 b, .bool true, .int .i64 0] := by simp only [proofT, hab]
      rw [e]
      simp [h1, hs.stor, hj.stor, hq.1.stor]
      refine plot_CheckPlan hs1 hj1 hq1 (by omega) (by omega) fun H2 x2 => ?_
      replace x2 : HX H1 H2 := x2
      have l2 := x2.len
      have hne : planP S J Q ≠ 0 := fun h7 => by
        apply h2
        rw [proofO_none h1]
        exact fun a b h8 h9 => plan_spare h7 ⟨h8, h9⟩
      simp [hne, hs.stor, hj.stor]
      refine plot_Spare (hs1.mono x2) (hj1.mono x2) ?_
      simp [hs.stor, hj.stor]
      refine plot_IsProof (hs1.mono x2) (hj1.mono x2) ?_
      have hw : valJ S J = 0 ∧ a ≤ b ∧ b < S.length ∧ spareP S J a b < 0 := by
        refine ⟨h1, ?_⟩
        simp only [proofO, h1, if_true] at hab
        have key : ∀ n, n ≤ S.length → firstO (winO S J) n = some (a, b) → a ≤ b ∧ b < S.length ∧ spareP S J a b < 0 := by
          intro n
          induction n with
          | zero => intro _ h; simp [firstO] at h
          | succ n ih =>
            intro hn h
            simp only [firstO] at h
            split at h
            · rename_i x hx
              rw [h] at hx
              exact ih (by omega) hx
            · have key2 : ∀ m, m ≤ S.length - n → firstO (winG S J n) m = some (a, b) → a ≤ b ∧ b < S.length ∧ spareP S J a b < 0 := by
                intro m
                induction m with
                | zero => intro _ h; simp [firstO] at h
                | succ m ih2 =>
                  intro hm h
                  simp only [firstO] at h
                  split at h
                  · rename_i x hx
                    rw [h] at hx
                    exact ih2 (by omega) hx
                  · unfold winG at h
                    split at h
                    · simp only [Option.some.injEq, Prod.mk.injEq] at h
                      obtain ⟨rfl, rfl⟩ := h
                      rename_i hsp
                      exact ⟨by omega, by omega, hsp⟩
                    · cases h
              exact key2 _ (Nat.le_refl _) h
        exact key _ (Nat.le_refl _) hab
      have hR : spareR S J a b = (spareP S J a b, 0) := by
        have : 0 ≤ (a : Int) ∧ (a : Int) ≤ b ∧ (b : Int) < S.length := by omega
        simp only [spareR, h1, ne_eq, not_true_eq_false, if_false, this, and_self, if_true, Int.toNat_natCast]
      simp [hR, hw.2.2.2]
      exact hK _
    · have e : proofT S J = .tup [.int .i64 0, .int .i64 0, .bool false, .int .i64 0] := by simp only [proofT, h2, h1]
      rw [e]
      simp [h1, hs.stor, hj.stor, hq.1.stor]
      refine plot_CheckPlan hs1 hj1 hq1 (by omega) (by omega) fun H2 x2 => ?_
      replace x2 : HX H1 H2 := x2
      have l2 := x2.len
      simp [hs.stor, hj.stor, hp.stor]
      refine plot_CheckPlan (hs1.mono x2) (hj1.mono x2) ⟨hp.mono x2, h6⟩ (by omega) (by omega) fun H3 x3 => ?_
      replace x3 : HX H2 H3 := x3
      have l3 := x3.len
      simp [h3, hs.stor, hj.stor]
      refine plot_Spare ((hs1.mono x2).mono x3) ((hj1.mono x2).mono x3) ?_
      by_cases hc : (spareR S J x y).2 = 0 ∧ (spareR S J x y).1 < 0
      · exfalso
        obtain ⟨hval, c1, c2, c3, c4⟩ := spareR_neg (e := (spareR S J x y).1) (by rw [← hc.1]) hc.2
        have := (proofO_none hval).1 h2 x.toNat y.toNat (by omega) (by omega)
        omega
      · by_cases hc1 : (spareR S J x y).2 = 0
        · have hc2 : ¬ (spareR S J x y).1 < 0 := fun h => hc ⟨hc1, h⟩
          simp [hc1, hc2]
          exact hK _
        · simp [hc1]
          exact hK _
end
end Go.Proofs.Ytdipmhdekjlifaa.Vm
