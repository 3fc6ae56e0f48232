/- Package plot over the machine: PlotQuick. -/
import Derived.Test.YtdipmhdekjlifaaPlE
namespace Go.Proofs.Ytdipmhdekjlifaa.Vm
open Go
set_option maxRecDepth 100000
set_option linter.unusedSimpArgs false
set_option linter.unusedVariables false
attribute [-simp] List.getD_eq_getElem?_getD
section
variable {lim : Nat} {H : Hp} {K : V → Hp → Prop} {wv : V} {W : List Wr} {r c s a m : Int} {v w : Wr}
theorem plot_Quick (hw : LstV wrC H wv W) (hm : I64 m) (hlim : lim ≤ H.length) (hK : ∀ H' v, HX H H' → LstV prC H' v (quickR ⟨W, r, c⟩ m) → K (.tup [v, .int .i64 (quickE ⟨W, r, c⟩ m)]) H') :
    VCall tbl lim 38 [.agg [wv, .int .i64 r, .int .i64 c], .int .i64 m] H K := by
  refine VCall_fn tbl_at38 rfl ?_
  simp [vf38, hw.one, hw.stor]
  refine plot_Validate hw ?_
  by_cases hval : valP ⟨W, r, c⟩ = 0
  case neg =>
    simp [hval]
    have := hK H .snil HX.refl (by simp only [quickR, hval, false_and, if_false]; exact .nil)
    simpa [quickE, hval] using this
  obtain ⟨g1, g2, g3, g4, g5⟩ := valP_ok hval
  simp only at g1 g2 g3 g4 g5
  simp [hval]
  refine plot_isMinute ?_
  cases hmb : minB m with
  | false =>
    simp
    have := hK H .snil HX.refl (by simp only [quickR, hmb, Bool.false_eq_true, and_false, if_false]; exact .nil)
    simpa [quickE, hval, hmb] using this
  | true =>
    have hmr : 0 ≤ m ∧ m ≤ 600 := by simpa [minB] using hmb
    have fa : ∀ i, i < W.length → ∀ j, vfaddr j (ept 4 wv i) = some (eptf 4 wv i j) := fun i hi j => hw.faddr hi
    simp [hw.len]
    refine wLoop_up W.length (fun i fr L H' => ∃ u, (fr 1 = .int .i64 m ∧ fr 2 = .lp 0 0 ∧ fr 20 = wv ∧ fr 21 = .int .i64 W.length ∧ fr 22 = .int .i64 i ∧ fr 7 = u) ∧ L[0]? = some [wv, .int .i64 r, .int .i64 c] ∧ HX H H' ∧ OwnT H.length prC H' u (quickL ⟨W, r, c⟩ m i)) ⟨.snil, by simp, rfl, HX.refl, .nil⟩ ?_
    rintro i hi fr L H' ⟨u, ⟨f1, f2, f20, f21, f22, f7⟩, l0, hx, hu⟩
    have hxl := hx.len
    have hwx := hw.mono hx
    have hql := quickL_len hval (m := m) (n := i) hi
    have hql : (quickL ⟨W, r, c⟩ m i).length ≤ i := hql
    simp [f1, f2, f20, f21, f22, f7]
    refine cond_dec (fun ht => ?_) fun hfl => ?_
    · have ht : i < W.length := by omega
      have hti := wrB_spec (g4 i ht)
      simp (disch := omega) [f1, f2, f20, f21, f22, f7, hw.at ht, wr_load hwx, lastO, lastS, splice44, iz4, keepL l0, hw.stor]
      refine plot_next hwx hval ht ?_
      have e2 := quickL_succ (p := ⟨W, r, c⟩) (m := m) (n := i)
      have e3 := quickI_all hval (m := m) (i := i) ht
      simp only at e2 e3
      rw [e3] at e2
      rcases bestN_spec ⟨W, r, c⟩ i W.length with ⟨s1, s2⟩ | ⟨b, s1, s2, s3, s4⟩
      · rw [s1] at e2 ⊢
        rw [if_neg (by omega), List.append_nil] at e2
        simp (disch := omega) [f1, f2, f20, f21, f22, f7, keepL l0, wrap_i64, e2]
        exact ⟨by omega, hx, hu⟩
      · have s2 : b < W.length := s2
        have ab : viaddrS 4 wv (.int .i64 (b : Int)) = some (ept 4 wv b) := hw.at s2
        rw [s1] at e2 ⊢
        simp only [Int.toNat_natCast] at e2
        by_cases hc : (W.getD b default).f < (W.getD i default).t + m
        · rw [if_pos ⟨by omega, hc⟩] at e2
          obtain ⟨v', H3, a1, a2, a3, a4, a5, a6⟩ := hu.append (lim := lim) (bytes := 16) (x := ⟨(i : Int), (b : Int)⟩) (cs := [.int .i64 (i : Int), .int .i64 (b : Int)]) rfl ⟨hlim, hxl⟩ (by omega) (by omega)
          simp (disch := omega) [f1, f2, f20, f21, f22, f7, keepL l0, wrap_i64, ab, fa b s2, wr_get hwx, lastO, lpId_eptf, hc, iz2, splice, a1, e2]
          exact ⟨by omega, a3 _ hx (Nat.le_refl _), a2⟩
        · rw [if_neg (fun h => hc h.2), List.append_nil] at e2
          simp (disch := omega) [f1, f2, f20, f21, f22, f7, keepL l0, wrap_i64, ab, fa b s2, wr_get hwx, lastO, lpId_eptf, hc, e2]
          exact ⟨by omega, hx, hu⟩
    · have : i = W.length := by omega
      subst this
      simp [f7, hu.lst.stor]
      have := hK _ _ hx (by simpa [quickR, hval, hmb] using hu.lst)
      simpa [quickE, hval, hmb] using this
theorem ref_Quick (hw : LstV wrC H wv W) (hm : I64 m) (hlim : lim ≤ H.length) (hK : ∀ H' v, HX H H' → LstV prC H' v (quickR ⟨W, r, c⟩ m) → K (.tup [v, .int .i64 (quickE ⟨W, r, c⟩ m)]) H') :
    VCall tbl lim 39 [.agg [wv, .int .i64 r, .int .i64 c], .int .i64 m] H K := by
  refine VCall_fn tbl_at39 rfl ?_
  simp [vf39, hw.one, hw.stor]
  refine ref_Validate hw ?_
  by_cases hval : valP ⟨W, r, c⟩ = 0
  case neg =>
    simp [hval]
    have := hK H .snil HX.refl (by simp only [quickR, hval, false_and, if_false]; exact .nil)
    simpa [quickE, hval] using this
  obtain ⟨g1, g2, g3, g4, g5⟩ := valP_ok hval
  simp only at g1 g2 g3 g4 g5
  simp [hval]
  refine ref_within ?_
  have em : ∀ n, decide (0 ≤ n ∧ n ≤ 600) = minB n := fun _ => rfl
  rw [em]
  cases hmb : minB m with
  | false =>
    simp
    have := hK H .snil HX.refl (by simp only [quickR, hmb, Bool.false_eq_true, and_false, if_false]; exact .nil)
    simpa [quickE, hval, hmb] using this
  | true =>
    have hmr : 0 ≤ m ∧ m ≤ 600 := by simpa [minB] using hmb
    have fa : ∀ i, i < W.length → ∀ j, vfaddr j (ept 4 wv i) = some (eptf 4 wv i j) := fun i hi j => hw.faddr hi
    simp [hw.len]
    refine wLoop_up W.length (fun i fr L H' => ∃ u, (fr 1 = .int .i64 m ∧ fr 2 = .lp 0 0 ∧ fr 8 = .int .i64 i ∧ fr 7 = u) ∧ L = [[wv, .int .i64 r, .int .i64 c]] ∧ HX H H' ∧ OwnT H.length prC H' u (quickL ⟨W, r, c⟩ m i)) ⟨.snil, by simp, rfl, HX.refl, .nil⟩ ?_
    rintro i hi fr L H' ⟨u, ⟨f1, f2, f8, f7⟩, rfl, hx, hu⟩
    simp [f1, f2, f8, f7, hw.len]
    refine cond_dec (fun ht => ?_) fun hfl => ?_
    · have ht : i < W.length := by omega
      have hti := wrB_spec (g4 i ht)
      have hql : (quickL ⟨W, r, c⟩ m i).length ≤ i := quickL_len hval hi
      simp
      refine wLoop_up W.length (fun k fr L H' => ∃ u, (fr 1 = .int .i64 m ∧ fr 2 = .lp 0 0 ∧ fr 8 = .int .i64 i ∧ fr 9 = .int .i64 k ∧ fr 7 = u) ∧ L = [[wv, .int .i64 r, .int .i64 c]] ∧ HX H H' ∧ OwnT H.length prC H' u (quickL ⟨W, r, c⟩ m i ++ quickI ⟨W, r, c⟩ m i k)) ⟨u, by simp [f1, f2, f8, f7], rfl, hx, by simpa [quickI] using hu⟩ ?_
      clear f1 f2 f8 f7 hx hu u H' fr
      rintro k hk fr L H' ⟨u, ⟨f1, f2, f8, f9, f7⟩, rfl, hx, hu⟩
      have hxl := hx.len
      have hwx := hw.mono hx
      simp [f1, f2, f8, f9, f7, hw.len]
      refine cond_dec (fun ht2 => ?_) fun hfl2 => ?_
      · have ht2 : k < W.length := by omega
        have htk := wrB_spec (g4 k ht2)
        have hqk : (quickI ⟨W, r, c⟩ m i k).length ≤ 1 := quickI_len hval ht hk
        have e2 := quickI_succ (p := ⟨W, r, c⟩) (m := m) (i := i) (n := k)
        simp [f1, f2, f8, f9, f7, hw.stor]
        refine ref_next hwx hval ht ht2 ?_
        by_cases hn : nextB ⟨W, r, c⟩ i k = true
        · by_cases hc : (W.getD k default).f < (W.getD i default).t + m
          · have hq : quickB ⟨W, r, c⟩ m i k = true := by simp [quickB, hn, hc]
            rw [if_pos hq] at e2
            obtain ⟨v', H3, a1, a2, a3, a4, a5, a6⟩ := hu.append (lim := lim) (bytes := 16) (x := ⟨(i : Int), (k : Int)⟩) (cs := [.int .i64 (i : Int), .int .i64 (k : Int)]) rfl ⟨hlim, hxl⟩ (by omega) (by rw [List.length_append]; omega)
            simp (disch := omega) [f1, f2, f8, f9, f7, hn, hw.at ht, hw.at ht2, fa i ht, fa k ht2, wr_get hwx, lpId_eptf, hc, wrap_i64, iz2, splice, a1, e2]
            refine ⟨by omega, a3 _ hx (Nat.le_refl _), ?_⟩
            simpa using a2
          · have hq : quickB ⟨W, r, c⟩ m i k = false := by simp [quickB, hc]
            rw [if_neg (by simp [hq])] at e2
            simp (disch := omega) [f1, f2, f8, f9, f7, hn, hw.at ht, hw.at ht2, fa i ht, fa k ht2, wr_get hwx, lpId_eptf, hc, wrap_i64, e2]
            exact ⟨by omega, hx, hu⟩
        · have hq : quickB ⟨W, r, c⟩ m i k = false := by simp [quickB, hn]
          rw [if_neg (by simp [hq])] at e2
          simp (disch := omega) [f1, f2, f8, f9, f7, hn, wrap_i64, e2]
          exact ⟨by omega, hx, hu⟩
      · have : k = W.length := by omega
        subst this
        have e2 := quickL_succ (p := ⟨W, r, c⟩) (m := m) (n := i)
        simp only at e2
        simp (disch := omega) [f1, f2, f8, f9, f7, wrap_i64, e2]
        exact ⟨by omega, hx, hu⟩
    · have : i = W.length := by omega
      subst this
      simp [f7, hu.lst.stor]
      have := hK _ _ hx (by simpa [quickR, hval, hmb] using hu.lst)
      simpa [quickE, hval, hmb] using this
theorem pr_load {av : V} {l : List Pr} (h : LstV prC H av l) {i : Nat} (hi : i < l.length) {L : Lo} : vload (some 2) L H (ept 2 av i) = some (.agg [.int .i64 (l.getD i default).x, .int .i64 (l.getD i default).y]) := h.load hi
theorem law_PlotQuick {ws : List V} {p : Ply} (hv : PlyV H ws p) (hlim : lim ≤ H.length) (hm : I64 m) (hK : ∀ H', K (.bool true) H') : VCall tbl lim 9 [.agg ws, .int .i64 m] H K := by
  cases hv with
  | mk hw hr hc =>
    rename_i wv W r c
    refine VCall_fn tbl_at9 rfl ?_
    simp [vf9, hw.stor, hw.one]
    refine law_long hw ?_
    refine cond_bool (fun h => ?_) fun h => ?_
    · simp
      refine law_known hlim fun H1 _ => ?_
      simp; exact hK _
    simp [hw.stor]
    refine plot_Quick hw hm hlim fun H1 v1 x1 o1 => ?_
    replace x1 : HX H H1 := x1
    have l1 := x1.len
    simp [hw.stor]
    refine ref_Quick (hw.mono x1) hm (by omega) fun H2 v2 x2 o2 => ?_
    replace x2 : HX H1 H2 := x2
    have l2 := x2.len
    have hle : (quickR ⟨W, r, c⟩ m).length ≤ W.length := by
      unfold quickR
      split
      · rename_i h2; exact quickL_len h2.1 (Nat.le_refl _)
      · simp
    have hw60 : W.length ≤ 60 := by simp at h; omega
    have o1' := (o1.mono x2)
    simp [o1'.len, o2.len]
    refine wLoop_up (quickR ⟨W, r, c⟩ m).length (fun i fr L H' => (fr 5 = v1 ∧ fr 7 = v2 ∧ fr 9 = .int .i64 i) ∧ H' = H2) ⟨by simp, rfl⟩ ?_
    rintro i hi fr L H' ⟨⟨f5, f7, f9⟩, rfl⟩
    simp [f5, f7, f9, o1'.len]
    refine cond_dec (fun ht => ?_) fun hfl => ?_
    · have ht : i < (quickR ⟨W, r, c⟩ m).length := by omega
      simp (disch := omega) [f5, f7, f9, o1'.at ht, o2.at ht, pr_load o1' ht, pr_load o2 ht, lpId_ept, veqA_2, wrap_i64]
      omega
    · simp
      refine law_known (by omega) fun H3 _ => ?_
      simp; exact hK _
end
end Go.Proofs.Ytdipmhdekjlifaa.Vm
