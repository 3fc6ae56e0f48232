/- Laws of hair over the machine: HairCuts. -/
import Derived.Test.YtgmbjfdhbfhmgaaHaP
namespace Go.Proofs.Ytgmbjfdhbfhmgaa.Vm
open Go
set_option maxRecDepth 100000
set_option linter.unusedSimpArgs false
set_option linter.unusedVariables false
attribute [-simp] List.getD_eq_getElem?_getD

/-! what cutting keeps -/
theorem abv_cut {f : HF} {L : Nat} {m : Int} (hm : 0 ≤ m) (hf : ∀ w n, 0 ≤ f w n) (hL : 1 ≤ L ∧ L ≤ 24) : ∀ k, k ≤ 25 - L → abv (cutF f L m) k = abv f k - (remF f L m (25 - L - k) - remF f L m (25 - L))
  | 0, _ => by simp [abv]
  | k + 1, h => by
    have ih := abv_cut hm hf hL k (by omega)
    have rs := rem_step (f := f) (L := L) (j := 25 - L - (k + 1)) (m := m) hf (by omega)
    have e1 : 25 - L - (k + 1) + 1 = 25 - L - k := by omega
    have e2 : L + (25 - L - (k + 1)) = 24 - k := by omega
    rw [e1, e2] at rs
    simp only [abv, ih, cutF]; omega
theorem abv_cut_low {f : HF} {L : Nat} {m : Int} (hm : 0 ≤ m) (hf : ∀ w n, 0 ≤ f w n) (hL : 1 ≤ L ∧ L ≤ 24) : ∀ d, 25 - L + d ≤ 24 → abv (cutF f L m) (25 - L + d) = abv f (25 - L + d) - (m - remF f L m (25 - L))
  | 0, _ => by
    have := abv_cut hm hf hL (25 - L) (Nat.le_refl _)
    rw [Nat.sub_self, rem_zero hm] at this
    rw [Nat.add_zero]; exact this
  | d + 1, h => by
    have ih := abv_cut_low hm hf hL d (by omega)
    have e : ∀ w, cutF f L m w (24 - (25 - L + d)) = f w (24 - (25 - L + d)) := by
      intro w; simp only [cutF, tkF]; rw [if_pos (by omega)]; omega
    rw [← Nat.add_assoc]
    simp only [abv, ih, e]; omega
theorem inS_cut {f : HF} {L : Nat} {m : Int} (hm : 0 ≤ m) (hf : ∀ w n, 0 ≤ f w n) (hL : 1 ≤ L ∧ L ≤ 24) : ∀ k, k ≤ 25 - L → inS (cutF f L m) k = inS f k - (L * (remF f L m (25 - L - k) - remF f L m (25 - L)) + (lostF f L m (25 - L) - lostF f L m (25 - L - k)))
  | 0, _ => by simp [inS]
  | k + 1, h => by
    have ih := inS_cut hm hf hL k (by omega)
    obtain ⟨j, hj⟩ : ∃ j, j = 25 - L - (k + 1) := ⟨_, rfl⟩
    have rs := rem_step (f := f) (L := L) (j := j) (m := m) hf (by omega)
    have e1 : 25 - L - k = j + 1 := by omega
    have e2 : L + j = 24 - k := by omega
    have e3 : (24 : Int) - k = L + j := by omega
    rw [← hj]
    rw [e1] at ih
    rw [e2] at rs
    have el : lostF f L m (j + 1) = lostF f L m j + (j : Int) * (tkF f L m 0 (24 - k) + tkF f L m 1 (24 - k)) := by simp only [lostF, e2]
    have ec : cutF f L m 0 (24 - k) + cutF f L m 1 (24 - k) = (f 0 (24 - k) + f 1 (24 - k)) - (tkF f L m 0 (24 - k) + tkF f L m 1 (24 - k)) := by simp only [cutF]; omega
    simp only [inS, ih, e3, ec, el, rs]
    generalize tkF f L m 0 (24 - k) + tkF f L m 1 (24 - k) = T
    generalize f 0 (24 - k) + f 1 (24 - k) = S
    simp only [Int.add_mul, Int.mul_sub, Int.mul_add]; omega
theorem inS_cut_low {f : HF} {L : Nat} {m : Int} (hm : 0 ≤ m) (hf : ∀ w n, 0 ≤ f w n) (hL : 1 ≤ L ∧ L ≤ 24) : ∀ d, 25 - L + d ≤ 24 → inS (cutF f L m) (25 - L + d) = inS f (25 - L + d) - (L * (m - remF f L m (25 - L)) + lostF f L m (25 - L))
  | 0, _ => by
    have := inS_cut hm hf hL (25 - L) (Nat.le_refl _)
    rw [Nat.sub_self, rem_zero hm] at this
    rw [Nat.add_zero, this]; simp [lostF]
  | d + 1, h => by
    have ih := inS_cut_low hm hf hL d (by omega)
    have e : ∀ w, cutF f L m w (24 - (25 - L + d)) = f w (24 - (25 - L + d)) := by
      intro w; simp only [cutF, tkF]; rw [if_pos (by omega)]; omega
    rw [← Nat.add_assoc]
    simp only [inS, ih, e]; omega

/-- as long as nothing lacks -/
theorem cut_sums {f g : HF} (hf : ∀ w n, 0 ≤ f w n ∧ f w n ≤ 1000000) (hg : ∀ w n, 0 ≤ g w n) : ∀ i, i ≤ 24 → cutBad f g i = false → (∀ k, i ≤ k → k ≤ 24 → abv (cutH f g i) k = abv f k - abv g i) ∧ inS (cutH f g i) 24 = inS f 24 - inS g i - cutLo f g i
  | 0, _, _ => by simp [cutH, cutLo, abv, inS]
  | i + 1, h, hb => by
    have hb' : cutBad f g i = false ∧ cutNo f g i = false := by simpa [cutBad] using hb
    obtain ⟨h1, h2⟩ := cut_sums hf hg i (by omega) hb'.1
    have hH := fun w n => (cutH_bd (g := g) hf i w n).1
    have g0 := hg 0 (24 - i)
    have g1 := hg 1 (24 - i)
    have hr : remF (cutH f g i) (24 - i) (g 0 (24 - i) + g 1 (24 - i)) (i + 1) = 0 := by
      have := hb'.2
      have h3 := rem_nn (f := cutH f g i) (L := 24 - i) (m := g 0 (24 - i) + g 1 (24 - i)) (j := i + 1)
      simp only [cutNo, decide_eq_false_iff_not] at this; omega
    have eL : 25 - (24 - i) = i + 1 := by omega
    constructor
    · intro k hk hk2
      have := abv_cut_low (f := cutH f g i) (L := 24 - i) (m := g 0 (24 - i) + g 1 (24 - i)) (by omega) hH (by omega) (k - (i + 1)) (by omega)
      rw [eL, show i + 1 + (k - (i + 1)) = k by omega, hr] at this
      simp only [cutH, this, h1 k (by omega) hk2, abv]; omega
    · have := inS_cut_low (f := cutH f g i) (L := 24 - i) (m := g 0 (24 - i) + g 1 (24 - i)) (by omega) hH (by omega) (24 - (i + 1)) (by omega)
      rw [eL, show i + 1 + (24 - (i + 1)) = 24 by omega, hr] at this
      have e3 : ((24 - i : Nat) : Int) = 24 - (i : Int) := by omega
      rw [e3] at this
      have e4 : inS g (i + 1) = inS g i + (24 - (i : Int)) * (g 0 (24 - i) + g 1 (24 - i)) := rfl
      have e5 : cutLo f g (i + 1) = cutLo f g i + lostF (cutH f g i) (24 - i) (g 0 (24 - i) + g 1 (24 - i)) (i + 1) := rfl
      have e6 : cutH f g (i + 1) = cutF (cutH f g i) (24 - i) (g 0 (24 - i) + g 1 (24 - i)) := rfl
      rw [e4, e5, e6, this, h2, Int.sub_zero]
      generalize (24 - (i : Int)) * (g 0 (24 - i) + g 1 (24 - i)) = P
      generalize inS f 24 = A
      omega
theorem cut_no {f g : HF} (hf : ∀ w n, 0 ≤ f w n ∧ f w n ≤ 1000000) (hg : ∀ w n, 0 ≤ g w n) {i : Nat} (h : i < 24) (hb : cutBad f g i = false) : cutNo f g i = decide (abv f (i + 1) < abv g (i + 1)) := by
  have h1 := (cut_sums hf hg i (by omega) hb).1 (i + 1) (by omega) (by omega)
  have g0 := hg 0 (24 - i)
  have g1 := hg 1 (24 - i)
  have e : 25 - (24 - i) = i + 1 := by omega
  have e0 : abv (cutH f g i) 0 = 0 := rfl
  have e1 : abv g (i + 1) = abv g i + (g 0 (24 - i) + g 1 (24 - i)) := rfl
  simp only [cutNo, remF, e, Nat.sub_self, e0, h1, e1]
  rw [decide_eq_decide]; omega
/-- the program's answers about cutting and lacking agree -/
theorem cut_lack {f g : HF} (hf : ∀ w n, 0 ≤ f w n ∧ f w n ≤ 1000000) (hg : ∀ w n, 0 ≤ g w n) : cutBad f g 24 = decide (lackD f g 24 ≠ 0) := by
  have key : ∀ i, i ≤ 24 → (cutBad f g i = false → lackD f g 24 = lackD f g (24 - i)) ∧ (cutBad f g i = true → lackD f g 24 ≠ 0) := by
    intro i
    induction i with
    | zero => intro _; simp [cutBad]
    | succ i ih =>
      intro h
      obtain ⟨a, b⟩ := ih (by omega)
      cases hb : cutBad f g i with
      | true => simp [cutBad, hb]; exact b hb
      | false =>
        have hn := cut_no hf hg (by omega) hb
        have a := a hb
        obtain ⟨k, hk⟩ : ∃ k, 24 - i = k + 1 := ⟨24 - i - 1, by omega⟩
        have e : 24 - (i + 1) = k := by omega
        have e2 : 24 - k = i + 1 := by omega
        have hs : lackD f g (k + 1) = if abv f (24 - k) < abv g (24 - k) then k + 1 else lackD f g k := rfl
        rw [hk, hs, e2] at a
        simp only [cutBad, hb, Bool.false_or, hn, e]
        by_cases hc : abv f (i + 1) < abv g (i + 1)
        · rw [if_pos hc] at a
          simp [hc, a]
        · rw [if_neg hc] at a
          simp [hc, a]
  obtain ⟨a, b⟩ := key 24 (by omega)
  cases hb : cutBad f g 24 with
  | true => simpa using b hb
  | false =>
    have := a hb
    rw [Nat.sub_self] at this
    have this : lackD f g 24 = 0 := this
    exact (decide_eq_false (fun h => h this)).symm

section
variable {lim : Nat} {H : Hp} {K : V → Hp → Prop} {r w r' w' : List Int} {av bv : V}

theorem cutP_len : (cutP r w r' w').1.length ≤ 24 ∧ (cutP r w r' w').2.1.length ≤ 24 := by
  simp only [cutP]
  split
  · split
    · simp
    · exact ⟨listN_len24, listN_len24⟩
  · simp
theorem cut_law (he : er2 r w r' w' = 0) (hb : cutBad (op r w) (op r' w') 24 = false) : errOf (cutP r w r' w').1 (cutP r w r' w').2.1 = 0 ∧ inF (op r w) = inF (op r' w') + inchesS (opened (cutP r w r' w').1 (cutP r w r' w').2.1) + (cutP r w r' w').2.2.1 := by
  simp only [cutP, he, hb, if_true, Bool.false_eq_true, if_false]
  have bd := cutH_bd (g := op r' w') (op_mil (r := r) (w := w)) 24
  have e1 := err_side (f := cutH (op r w) (op r' w') 24) fun w n _ _ _ => bd w n
  refine ⟨e1, ?_⟩
  have oo : ∀ x m, x < 2 → 1 ≤ m → m ≤ 24 → op (sideF (cutH (op r w) (op r' w') 24) 0) (sideF (cutH (op r w) (op r' w') 24) 1) x m = cutH (op r w) (op r' w') 24 x m := fun x m h1 h2 h3 => op_side (fun w n _ _ _ => bd w n) h1 h2 h3
  have e2 := (cut_sums (op_mil (r := r) (w := w)) (fun x n => (op_mil (r := r') (w := w') x n).1) 24 (by omega) hb).2
  rw [opened_mk, mk48_congr oo]
  show _ = _ + inF (cutH (op r w) (op r' w') 24) + _
  rw [inF_S, inF_S, inF_S, e2]; omega

theorem law_HairCuts (ha : BunV H r w av) (hb : BunV H r' w' bv) (hlim : lim ≤ H.length) (hK : ∀ H', K (.bool true) H') : VCall tbl lim 14 [av, bv] H K := by
  obtain ⟨hx, hy⟩ := ha
  obtain ⟨gx, gy⟩ := hb
  rename_i rv wv rv' wv'
  have ha : BunV H r w (.agg [rv, wv]) := .mk hx hy
  have hb : BunV H r' w' (.agg [rv', wv']) := .mk gx gy
  refine VCall_fn tbl_at14 rfl ?_
  simp [vf14, hx.stor, hy.stor, hx.one, hy.one, gx.stor, gy.stor, gx.one, gy.one]
  refine law_Long ha ?_
  by_cases hl : 100 < r.length ∨ 100 < w.length
  · have hl' : (decide (100 < r.length) || decide (100 < w.length)) = true := by simpa using hl
    simp [hl']
    refine law_known hlim fun H1 _ => ?_
    simp; exact hK _
  have hl' : (decide (100 < r.length) || decide (100 < w.length)) = false := by simp; omega
  simp [hl', gx.stor, gy.stor]
  refine law_Long hb ?_
  by_cases hm : 100 < r'.length ∨ 100 < w'.length
  · have hm' : (decide (100 < r'.length) || decide (100 < w'.length)) = true := by simpa using hm
    simp [hm']
    refine law_known hlim fun H1 _ => ?_
    simp; exact hK _
  have hm' : (decide (100 < r'.length) || decide (100 < w'.length)) = false := by simp; omega
  simp [hm', hx.stor, hy.stor]
  refine ref01_Copy ha hlim (by omega) (by omega) fun H1 cv x1 o1 => ?_
  replace x1 : HX H H1 := x1
  have l1 := x1.len
  obtain ⟨c1, c2⟩ := o1
  simp [c1.sl.stor, c2.sl.stor, c1.sl.one, c2.sl.one, gx.stor, gy.stor]
  refine hair_Cut (BunV.mk c1.sl c2.sl) (hb.mono x1) (by omega) fun H2 _ x2 o2 => ?_
  replace x2 : HX H1 H2 := x2
  have l2 := x2.len
  obtain ⟨d1, d2⟩ := o2
  simp [d1.sl.stor, d2.sl.stor, d1.sl.one, d2.sl.one, gx.stor, gy.stor, hx.stor, hy.stor]
  refine ref01_Cut (ha.mono (x1.trans x2)) (hb.mono (x1.trans x2)) (by omega) fun H3 _ x3 o3 => ?_
  replace x3 : HX H2 H3 := x3
  have l3 := x3.len
  obtain ⟨f1, f2⟩ := o3
  simp [f1.sl.stor, f2.sl.stor, f1.sl.one, f2.sl.one, gx.stor, gy.stor, hx.stor, hy.stor]
  refine hair_Lack (ha.mono ((x1.trans x2).trans x3)) (hb.mono ((x1.trans x2).trans x3)) (by omega) fun H4 x4 => ?_
  replace x4 : HX H3 H4 := x4
  have l4 := x4.len
  simp [gx.stor, gy.stor, hx.stor, hy.stor]
  refine ref01_Lack (lim := lim) (ha.mono (((x1.trans x2).trans x3).trans x4)) (hb.mono (((x1.trans x2).trans x3).trans x4)) (by omega) ?_
  simp [d1.sl.stor, d2.sl.stor, f1.sl.stor, f2.sl.stor]
  have tl := cutP_len (r := r) (w := w) (r' := r') (w' := w')
  refine ref01_Equal (BunV.mk (d1.sl.mono (x3.trans x4)) (d2.sl.mono (x3.trans x4))) (BunV.mk (f1.sl.mono x4) (f2.sl.mono x4)) (by omega) (by omega) ?_
  simp [c1.sl.stor, c2.sl.stor, hx.stor, hy.stor]
  refine ref01_Equal (BunV.mk (c1.sl.mono ((x2.trans x3).trans x4)) (c2.sl.mono ((x2.trans x3).trans x4))) (ha.mono (((x1.trans x2).trans x3).trans x4)) (by omega) (by omega) ?_
  by_cases he : er2 r w r' w' = 0
  case neg =>
    have h1 : (lackP r w r' w').2.2 = er2 r w r' w' := by simp [lackP, he]
    have h2 : (cutP r w r' w').2.2.2 = er2 r w r' w' := by simp [cutP, he]
    simp [h1, h2, he]
    refine law_known (by omega) fun H5 _ => ?_
    simp; exact hK _
  have h1 : (lackP r w r' w').2.2 = 0 := by simp [lackP, he]
  have cl := cut_lack (op_mil (r := r) (w := w)) (fun x n => (op_mil (r := r') (w := w') x n).1)
  have h3 : (lackP r w r' w').2.1 = cutBad (op r w) (op r' w') 24 := by simp only [lackP, he, if_true, cl]
  have ee := er2_zero he
  have iF : inchesS (opened r w) = inF (op r w) := by rw [opened_mk]; rfl
  have iG : inchesS (opened r' w') = inF (op r' w') := by rw [opened_mk]; rfl
  cases hbad : cutBad (op r w) (op r' w') 24 with
  | true =>
    have h2 : (cutP r w r' w').2.2.2 = 6 := by simp [cutP, he, hbad]
    simp [h1, h2, h3, hbad, hx.stor, hy.stor]
    refine hair_Inches (ha.mono (((x1.trans x2).trans x3).trans x4)) (by omega) fun H5 x5 => ?_
    replace x5 : HX H4 H5 := x5
    have l5 := x5.len
    simp [gx.stor, gy.stor]
    refine hair_Inches (hb.mono ((((x1.trans x2).trans x3).trans x4).trans x5)) (by omega) fun H6 x6 => ?_
    replace x6 : HX H5 H6 := x6
    have l6 := x6.len
    simp [d1.sl.stor, d2.sl.stor]
    refine hair_Inches (BunV.mk (d1.sl.mono (((x3.trans x4).trans x5).trans x6)) (d2.sl.mono (((x3.trans x4).trans x5).trans x6))) (by omega) fun H7 x7 => ?_
    replace x7 : HX H6 H7 := x7
    have l7 := x7.len
    simp
    refine law_known (by omega) fun H8 _ => ?_
    simp; exact hK _
  | false =>
    have h2 : (cutP r w r' w').2.2.2 = 0 := by simp [cutP, he, hbad]
    obtain ⟨ce, ci⟩ := cut_law he hbad
    have bf := inF_bd (op_mil (r := r) (w := w))
    have bg := inF_bd (op_mil (r := r') (w := w'))
    have bl : 0 ≤ (cutP r w r' w').2.2.1 ∧ (cutP r w r' w').2.2.1 ≤ 28800000000 := by
      have := cutLo_bd (g := op r' w') (op_mil (r := r) (w := w)) 24 (by omega)
      simp only [cutP, he, hbad, if_true, Bool.false_eq_true, if_false]; omega
    simp [h1, h2, h3, hbad, hx.stor, hy.stor]
    refine hair_Inches (ha.mono (((x1.trans x2).trans x3).trans x4)) (by omega) fun H5 x5 => ?_
    replace x5 : HX H4 H5 := x5
    have l5 := x5.len
    simp [gx.stor, gy.stor]
    refine hair_Inches (hb.mono ((((x1.trans x2).trans x3).trans x4).trans x5)) (by omega) fun H6 x6 => ?_
    replace x6 : HX H5 H6 := x6
    have l6 := x6.len
    simp [d1.sl.stor, d2.sl.stor]
    refine hair_Inches (BunV.mk (d1.sl.mono (((x3.trans x4).trans x5).trans x6)) (d2.sl.mono (((x3.trans x4).trans x5).trans x6))) (by omega) fun H7 x7 => ?_
    replace x7 : HX H6 H7 := x7
    have l7 := x7.len
    rw [iF, iG]
    generalize inchesS (opened (cutP r w r' w').1 (cutP r w r' w').2.1) = c at *
    generalize (cutP r w r' w').2.2.1 = lo at *
    have ci2 : inF (op r w) = inF (op r' w') + c + lo := ci
    simp (disch := omega) [wrap_i64, ← ci2]
    refine law_known (by omega) fun H8 _ => ?_
    simp; exact hK _
end
end Go.Proofs.Ytgmbjfdhbfhmgaa.Vm
