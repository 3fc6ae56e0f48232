/- Laws of hair over the machine: HairHandfulsFall. -/
import Derived.Test.YtgmbjfdhbfhmgaaHaS
namespace Go.Proofs.Ytgmbjfdhbfhmgaa.Vm
open Go
set_option maxRecDepth 100000
set_option linter.unusedSimpArgs false
set_option linter.unusedVariables false
attribute [-simp] List.getD_eq_getElem?_getD

theorem abv_mo {f : HF} (hf : ∀ w n, 0 ≤ f w n) (a b : Nat) : abv f a ≤ abv f (a + b) := by
  induction b with
  | zero => simp
  | succ b ih => have := hf 0 (24 - (a + b)); have := hf 1 (24 - (a + b)); rw [← Nat.add_assoc]; simp only [abv]; omega
theorem haLo {α : Type} {X l : List α} {k : Nat} : (X ++ l)[X.length + k]? = l[k]? := by rw [List.getElem?_append_right (by omega)]; congr 1; omega
theorem haLo0 {α : Type} {X l : List α} : (X ++ l)[X.length]? = l[0]? := by rw [List.getElem?_append_right (by omega)]; congr 1; omega
theorem drw_all {f : HF} (hf : ∀ w n, 0 ≤ f w n) {w L : Nat} (hw : w < 2) (h1 : 1 ≤ L) (h2 : L ≤ 24) : drw f (cntF f) w L = f w L := by
  have hs : abv f (24 - L + 1) = abv f (24 - L) + (f 0 (24 - (24 - L)) + f 1 (24 - (24 - L))) := rfl
  have hm := abv_mo hf (24 - L + 1) (L - 1)
  rw [show 24 - L + 1 + (L - 1) = 24 by omega] at hm
  have hm : abv f (24 - L + 1) ≤ cntF f := hm
  rw [show 24 - (24 - L) = L by omega] at hs
  have a := hf 0 L
  have b := hf 1 L
  rcases (show w = 0 ∨ w = 1 by omega) with rfl | rfl
  · simp only [drw, if_true]; omega
  · simp only [drw, show ¬ (1 : Nat) = 0 by omega, if_false]; omega
theorem drw_none {f : HF} (hf : ∀ w n, 0 ≤ f w n ∧ f w n ≤ 1000000000) {w L : Nat} : drw f 0 w L = 0 := by
  have ha := (abv_nonneg hf (24 - L)).1
  have a := (hf 0 L).1
  have b := (hf w L).1
  simp only [drw]; split <;> omega
theorem drw_mono {f : HF} (hf : ∀ w n, 0 ≤ f w n) {a b : Int} (hab : a ≤ b) {w L : Nat} (hw : w < 2) : drw f a w L ≤ drw f b w L := by
  have := hf 0 L
  have := hf w L
  simp only [drw]; split <;> omega
theorem mean_side {h : HF} (hh : ∀ w n, w < 2 → 1 ≤ n → n ≤ 24 → 0 ≤ h w n ∧ h w n ≤ 1000000) (hc : 0 < cntF h) : meanP (sideF h 0) (sideF h 1) = (mnum h, mden h, 0) := by
  have oo : ∀ x m, x < 2 → 1 ≤ m → m ≤ 24 → op (sideF h 0) (sideF h 1) x m = h x m := fun x m h1 h2 h3 => op_side hh h1 h2 h3
  have e1 : cntF (op (sideF h 0) (sideF h 1)) = cntF h := abv_congr oo (Nat.le_refl _)
  have e2 := inF_congr oo
  have : cntF h ≠ 0 := by omega
  simp [meanP, withE, err_side hh, ratP, e1, e2, mnum, mden, this]
theorem cnt_side {h : HF} (hh : ∀ w n, w < 2 → 1 ≤ n → n ≤ 24 → 0 ≤ h w n ∧ h w n ≤ 1000000) : aboveS (opened (sideF h 0) (sideF h 1)) 1 = cntF h := by
  have oo : ∀ x m, x < 2 → 1 ≤ m → m ≤ 24 → op (sideF h 0) (sideF h 1) x m = h x m := fun x m h1 h2 h3 => op_side hh h1 h2 h3
  rw [opened_mk, aboveS_mk, kA_1]; exact abv_congr oo (Nat.le_refl _)

section
variable {f : HF} {n : Int} {i : Nat}
theorem hnd_bd (hf : ∀ w n, 0 ≤ f w n ∧ f w n ≤ 1000000) (hn : 1 ≤ n) : ∀ w L, w < 2 → 1 ≤ L → L ≤ 24 → 0 ≤ hndF f n i w L ∧ hndF f n i w L ≤ 1000000 := by
  intro w L hw h1 h2
  have hc : 0 ≤ cntF f := (abv_nonneg (f := f) (fun w n => ⟨(hf w n).1, by have := (hf w n).2; omega⟩) 24).1
  obtain ⟨s1, s2, s3⟩ := dT_step (f := f) hn hc i
  have a := drw_mono (fun w n => (hf w n).1) (show dT f n i ≤ dT f n (i + 1) by omega) hw (L := L)
  have b := drw_bd (f := f) (n := dT f n i) hf w L
  have c := drw_bd (f := f) (n := dT f n (i + 1)) hf w L
  have d := (hf w L).2
  simp only [hndF]; omega
theorem abv_hnd (hf : ∀ w n, 0 ≤ f w n) (hn : 1 ≤ n) (hc : 0 ≤ cntF f) {k : Nat} (hk : k ≤ 24) : abv (hndF f n i) k = min (dT f n (i + 1)) (abv f k) - min (dT f n i) (abv f k) := by
  obtain ⟨s1, s2, s3⟩ := dT_step (f := f) hn hc i
  have e1 := abv_drw hf (n := dT f n (i + 1)) (by omega) k hk
  have e2 := abv_drw hf (n := dT f n i) (by omega) k hk
  have : hndF f n i = subF (drw f (dT f n (i + 1))) (drw f (dT f n i)) := rfl
  rw [this, abv_sub, e1, e2]
theorem cnt_hnd (hf : ∀ w n, 0 ≤ f w n) (hn : 1 ≤ n) (hc : 0 ≤ cntF f) : cntF (hndF f n i) = min n (cntF f - dT f n i) := by
  obtain ⟨s1, s2, s3⟩ := dT_step (f := f) hn hc i
  have := abv_hnd hf hn hc (i := i) (k := 24) (Nat.le_refl _)
  have e : abv f 24 = cntF f := rfl
  show abv (hndF f n i) 24 = _
  rw [this, e]; omega
/-- the mean of the handfuls falls -/
theorem mean_falls (hf : ∀ w n, 0 ≤ f w n ∧ f w n ≤ 1000000) (hn : 1 ≤ n) (h : dT f n (i + 1) < cntF f) : mnum (hndF f n (i + 1)) * mden (hndF f n i) ≤ mnum (hndF f n i) * mden (hndF f n (i + 1)) := by
  have hf0 := fun w n => (hf w n).1
  have hc : 0 ≤ cntF f := (abv_nonneg (f := f) (fun w n => ⟨(hf w n).1, by have := (hf w n).2; omega⟩) 24).1
  obtain ⟨s1, s2, s3⟩ := dT_step (f := f) hn hc i
  obtain ⟨t1, t2, t3⟩ := dT_step (f := f) hn hc (i + 1)
  have c0 := cnt_hnd hf0 hn hc (i := i)
  have c1 := cnt_hnd hf0 hn hc (i := i + 1)
  have hm : moreN (hndF f n (i + 1)) (hndF f n i) 24 = false := by
    cases hq : moreN (hndF f n (i + 1)) (hndF f n i) 24 with
    | false => rfl
    | true =>
      obtain ⟨j, hj, hlt⟩ := (moreN_iff 24).1 hq
      exfalso
      have a0 := abv_hnd hf0 hn hc (i := i) (k := 24 - j) (by omega)
      have a1 := abv_hnd hf0 hn hc (i := i + 1) (k := 24 - j) (by omega)
      have hle : abv f (24 - j) ≤ cntF f := by
        have := abv_mo hf0 (24 - j) j
        rw [show 24 - j + j = 24 by omega] at this; exact this
      have hA0 : 0 ≤ abv f (24 - j) := (abv_nonneg (f := f) (fun w n => ⟨(hf w n).1, by have := (hf w n).2; omega⟩) (24 - j)).1
      generalize abv f (24 - j) = A at *
      by_cases hA : A ≤ dT f n (i + 1)
      · have z : abv (hndF f n (i + 1)) (24 - j) = 0 := by rw [a1]; omega
        rw [z] at hlt
        have : 0 ≤ abv (hndF f n i) (24 - j) * cntF (hndF f n (i + 1)) := Int.mul_nonneg (by omega) (by omega)
        omega
      · have z : abv (hndF f n i) (24 - j) = cntF (hndF f n i) := by rw [a0, c0]; omega
        have y : abv (hndF f n (i + 1)) (24 - j) ≤ cntF (hndF f n (i + 1)) := by rw [a1, c1]; omega
        rw [z] at hlt
        have := Int.mul_le_mul_of_nonneg_right y (show 0 ≤ cntF (hndF f n i) by omega)
        rw [Int.mul_comm (cntF (hndF f n i))] at hlt
        omega
  have hb0 := hnd_bd (i := i) hf hn
  have hb1 := hnd_bd (i := i + 1) hf hn
  have in0 : ∀ k, 0 ≤ inF (hndF f n k) := by
    intro k
    have hb := hnd_bd (i := k) hf hn
    have : inF (hndF f n k) = inF (op (sideF (hndF f n k) 0) (sideF (hndF f n k) 1)) := (inF_congr fun x m h1 h2 h3 => op_side hb h1 h2 h3).symm
    rw [this]
    exact (inF_bd op_bd).1
  have cm := (cmp_means (f := hndF f n i) (g := hndF f n (i + 1))).1 hm
  rw [← inF_sumA, ← inF_sumA] at cm
  exact (mean_sign (f := hndF f n i) (g := hndF f n (i + 1)) (in0 _) (by omega) (in0 _) (by omega)).2 cm
theorem mean_bd2 (hf : ∀ w n, 0 ≤ f w n ∧ f w n ≤ 1000000) (hn : 1 ≤ n) : 0 ≤ mnum (hndF f n i) ∧ mnum (hndF f n i) ≤ 1152000000 ∧ 0 ≤ mden (hndF f n i) ∧ mden (hndF f n i) ≤ 48000000 := by
  have hb := hnd_bd (i := i) hf hn
  have e1 : inF (hndF f n i) = inF (op (sideF (hndF f n i) 0) (sideF (hndF f n i) 1)) := (inF_congr fun x m h1 h2 h3 => op_side hb h1 h2 h3).symm
  have e2 : cntF (hndF f n i) = cntF (op (sideF (hndF f n i) 0) (sideF (hndF f n i) 1)) := (abv_congr (fun x m h1 h2 h3 => op_side hb h1 h2 h3) (Nat.le_refl _)).symm
  have := mean_bd (f := op (sideF (hndF f n i) 0) (sideF (hndF f n i) 1)) op_bd
  simpa only [mnum, mden, e1, e2] using this
end

section
variable {lim : Nat} {H : Hp} {K : V → Hp → Prop} {r w : List Int} {bv : V} {n : Int}

theorem law_HairHandfulsFall (hb : BunV H r w bv) (hlim : lim ≤ H.length) (hn : I64 n) (hK : ∀ H', K (.bool true) H') : VCall tbl lim 13 [bv, .int .i64 n] H K := by
  refine VCall_fn tbl_at13 rfl ?_
  simp [vf13, hb.stor.1, hb.load]
  refine law_Long hb ?_
  simp
  refine cond_bool (fun hl => ?_) fun hl => ?_
  · simp; refine law_known hlim fun H1 _ => ?_; simp; exact hK H1
  simp [hb.stor.1, hb.load]
  refine hair_Handfuls hb hlim hn (fun H1 x1 he => ?_) fun H1 v ps x1 he e0 n1 hv => ?_
  · replace x1 : HX H H1 := x1
    have l1 := x1.len
    simp [he]
    refine law_known (by omega) fun H2 _ => ?_
    simp; exact hK _
  replace x1 : HX H H1 := x1
  have l1 := x1.len
  have of := op_mil (r := r) (w := w)
  have of0 := fun a b => (of a b).1
  have of9 := op_bd' (r := r) (w := w)
  have c0 := cntF_op2 (r := r) (w := w)
  obtain ⟨f, hF⟩ : ∃ f, f = op r w := ⟨_, rfl⟩
  have hq : hndQ f n ≤ 200 := by
    simp only [hfE, e0, if_true, show ¬ n < 1 by omega, if_false] at he
    have := hndQ_iff (f := op r w) (n := n) (by omega) c0.1 (i := 200)
    by_cases h2 : 200 < hndQ (op r w) n
    · have := this.1 h2
      rw [if_pos (by omega)] at he; cases he
    · rw [hF]; omega
  rw [← hF] at of of0 of9 c0 hv
  have hvl := hv.vlen
  rw [hndL_len] at hvl
  have hT0 := dT_zero (f := f) (n := n) c0.1
  have dbd : ∀ m w L, 0 ≤ drw f m w L ∧ drw f m w L ≤ 1000000 := fun m w L => by
    have := drw_bd (f := f) (n := m) of w L
    have := (of w L).2
    omega
  have z0 : ∀ w, sideF (drw f 0) w = [] := by
    intro w
    have : sideF (drw f 0) w = sideF zF w := side_congr fun n _ _ => by rw [drw_none of9]; rfl
    rw [this]
    have h0 : ∀ k, lastN (zF w) k = 0 := by
      intro k
      induction k with
      | zero => rfl
      | succ k ih => simp [lastN, zF]; exact ih
    simp [sideF, h0, listN]
  have r2 : ∀ a b : V, rd (some 2) [a, b] 0 = some (.agg [a, b]) := fun _ _ => rfl
  have r20 : ∀ a b : V, rd none [a, b] 0 = some a := fun _ _ => rfl
  have r21 : ∀ a b : V, rd none [a, b] 1 = some b := fun _ _ => rfl
  simp [hv.own.lst.stor]
  refine wLoop_up (hndQ f n) (fun i fr L H' => ∃ (X : Lo) (a b : V), (fr 1 = .int .i64 n ∧ fr 2 = .lp 0 0 ∧ fr 5 = v ∧ fr 7 = .lp 1 0 ∧ fr 8 = .int .i64 (i : Int)) ∧ L = cellsV bv :: [a, b] :: X ∧ HX H1 H' ∧ SlV H' a (sideF (drw f (dT f n i)) 0) ∧ SlV H' b (sideF (drw f (dT f n i)) 1))
    ⟨[], .snil, .snil, by simp, by simp, .refl, by rw [hT0, z0]; exact .nil, by rw [hT0, z0]; exact .nil⟩ ?_
  rintro i hi fr L H' ⟨X, a, b, ⟨f1, f2, f5, f7, f8⟩, rfl, hx, sa, sb⟩
  have hxl := hx.len
  have hXc : ∀ c : List V, (X ++ [c])[X.length]? = some c := fun _ => List.getElem?_concat_length
  obtain ⟨s1, s2, s3⟩ := dT_step (f := f) (n := n) n1 c0.1 i
  have iq := hndQ_iff (f := f) (n := n) n1 c0.1 (i := i)
  have hT : dT f n i < cntF f ↔ i < hndQ f n := by
    rw [iq]; simp only [dT]; omega
  simp [f1, f2, f5, f7, f8, hvl]
  refine cond_dec (fun ht => ?_) fun hf => ?_
  · have hlt := hT.2 ht
    obtain ⟨p1, p2, p3, p4, p5⟩ := (hv.mono hx).load (i := i) (by rw [hndL_len]; omega)
    rw [hndL_get ht] at p4 p5
    have pa := hv.at (i := i) (by rw [hndL_len]; omega)
    have hb1 := hnd_bd (i := i) of n1
    have hch := cnt_hnd of0 n1 c0.1 (i := i)
    have hmix := mix_parts (f := drw f (dT f n i)) (g := hndF f n i) (h := drw f (dT f n (i + 1))) (fun w n _ _ _ => dbd _ w n) hb1 (fun w n => (dbd _ w n).2) (fun w L hw h1 h2 => by simp only [hndF]; omega)
    have hmean := mean_side hb1 (by rw [hch]; omega)
    have hcs := cnt_side hb1
    have hes := err_side hb1
    simp [f1, f2, f5, f7, f8, pa, p3, sa.stor, sb.stor, p4.sl.stor, p5.sl.stor, r2]
    refine hair_Mix (BunV.mk sa sb) (BunV.mk p4.sl p5.sl) (by omega) fun H2 av x2 o2 => ?_
    replace x2 : HX H' H2 := x2
    have l2 := x2.len
    rw [hmix] at o2 ⊢
    obtain ⟨m1, m2⟩ := o2
    rename_i a' b'
    have p3' := fun L => (hv.mono (hx.trans x2)).own.lst.load (L := L) (i := i) (by rw [hv.len, hndL_len]; omega)
    obtain ⟨g1, g2, g3, g4, g5⟩ := (hv.mono (hx.trans x2)).load (i := i) (by rw [hndL_len]; omega)
    rw [hndL_get ht] at g4 g5
    simp [f1, f2, f5, f7, f8, pa, g3, m1.sl.stor, m2.sl.stor, m1.sl.one, m2.sl.one, g4.sl.stor, g5.sl.stor, r2, hXc]
    refine hair_Count (BunV.mk g4.sl g5.sl) (by omega) fun H3 x3 => ?_
    replace x3 : HX H2 H3 := x3
    have l3 := x3.len
    rw [hcs, hes, hch]
    have hi1 : dT f n (i + 1) < cntF f ↔ i + 1 < hndQ f n := by
      rw [hndQ_iff (f := f) (n := n) n1 c0.1 (i := i + 1)]; simp only [dT]; omega
    have hfull : i + 1 < hndQ f n → min n (cntF f - dT f n i) = n := by
      intro h; have := hi1.2 h; omega
    have cb1 : ¬ min n (cntF f - dT f n i) < 1 := by omega
    have cb2 : ¬ n < min n (cntF f - dT f n i) := by omega
    have hw1 : IntKind.i64.wrap ((i : Int) + 1) = (i : Int) + 1 := wrap_i64 (by omega) (by omega)
    have sa2 : SlV H3 a' (sideF (drw f (dT f n (i + 1))) 0) := m1.sl.mono x3
    have sb2 : SlV H3 b' (sideF (drw f (dT f n (i + 1))) 1) := m2.sl.mono x3
    by_cases hq1 : i + 1 < hndQ f n
    · have e1 := hfull hq1
      have hq1' : (i : Int) + 1 < (hndQ f n : Int) := by omega
      simp [f1, f2, f5, f7, f8, hvl, hw1, hq1', e1, hXc, r2, m1.sl.one, m2.sl.one, show ¬ n < 1 by omega]
      by_cases hi0 : i = 0
      · subst hi0
        simp (disch := omega) [f1, f2, f5, f7, f8, hw1, hXc]
        exact ⟨by omega, rfl, _, a', b', ⟨⟨rfl, rfl⟩, rfl⟩, (hx.trans x2).trans x3, sa2, sb2⟩
      · have hi0' : ¬ (i : Int) = 0 := by omega
        obtain ⟨k, rfl⟩ : ∃ k, i = k + 1 := ⟨i - 1, by omega⟩
        obtain ⟨u1, u2, u3, u4, u5⟩ := (hv.mono ((hx.trans x2).trans x3)).load (i := k) (by rw [hndL_len]; omega)
        rw [hndL_get (by omega)] at u4 u5
        have pk := hv.at (i := k) (by rw [hndL_len]; omega)
        have ek : ((k + 1 : Nat) : Int) - 1 = (k : Int) := by omega
        have hbk := hnd_bd (i := k) of n1
        have hck := cnt_hnd of0 n1 c0.1 (i := k)
        obtain ⟨r1, r2', r3⟩ := dT_step (f := f) (n := n) n1 c0.1 k
        have hmk := mean_side hbk (by rw [hck]; omega)
        have hfall := mean_falls (i := k) of n1 hlt
        have db0 := mean_bd2 (i := k) of n1
        have db1 := mean_bd2 (i := k + 1) of n1
        have hwk : IntKind.i64.wrap (k : Int) = k := wrap_i64 (by omega) (by omega)
        have e0' : ¬ (k : Int) + 1 = 0 := by omega
        push_cast at *
        simp [f1, f2, f5, f7, f8, e0', hwk, pk, u3, u4.sl.stor, u5.sl.stor, Int.add_sub_cancel]
        refine hair_Mean (BunV.mk u4.sl u5.sl) (by omega) fun H4 x4 => ?_
        replace x4 : HX H3 H4 := x4
        have l4 := x4.len
        rw [hmk]
        obtain ⟨t1, t2, t3, t4, t5⟩ := (hv.mono (((hx.trans x2).trans x3).trans x4)).load (i := k + 1) (by rw [hndL_len]; omega)
        rw [hndL_get ht] at t4 t5
        simp [f1, f2, f5, f7, f8, pa, t3, t4.sl.stor, t5.sl.stor]
        refine hair_Mean (BunV.mk t4.sl t5.sl) (by omega) fun H5 x5 => ?_
        replace x5 : HX H4 H5 := x5
        have l5 := x5.len
        rw [hmean]
        have pm1 := mul_bd (a := mnum (hndF f n k)) (b := mden (hndF f n (k + 1))) ⟨db0.1, db0.2.1⟩ ⟨db1.2.2.1, db1.2.2.2⟩
        have pm2 := mul_bd (a := mnum (hndF f n (k + 1))) (b := mden (hndF f n k)) ⟨db1.1, db1.2.1⟩ ⟨db0.2.2.1, db0.2.2.2⟩
        have hfall2 : ¬ mnum (hndF f n k) * mden (hndF f n (k + 1)) < mnum (hndF f n (k + 1)) * mden (hndF f n k) := by omega
        have w1 : IntKind.i64.wrap (mnum (hndF f n k) * mden (hndF f n (k + 1))) = mnum (hndF f n k) * mden (hndF f n (k + 1)) := wrap_i64 (by omega) (by omega)
        have w2 : IntKind.i64.wrap (mnum (hndF f n (k + 1)) * mden (hndF f n k)) = mnum (hndF f n (k + 1)) * mden (hndF f n k) := wrap_i64 (by omega) (by omega)
        have w3 : IntKind.i64.wrap ((k : Int) + 1 + 1) = (k : Int) + 1 + 1 := wrap_i64 (by omega) (by omega)
        simp [f1, f2, f5, f7, f8, hXc, w1, w2, w3, hfall2, haLo, haLo0, r20, r21]
        exact ⟨by omega, _, a', b', ⟨⟨rfl, rfl⟩, rfl⟩, (((hx.trans x2).trans x3).trans x4).trans x5, (sa2.mono x4).mono x5, (sb2.mono x4).mono x5⟩
    · have hq1' : ¬ (i : Int) + 1 < (hndQ f n : Int) := by omega
      simp [f1, f2, f5, f7, f8, hvl, hw1, hq1', cb1, cb2, hXc, r2, m1.sl.one, m2.sl.one]
      by_cases hi0 : i = 0
      · subst hi0
        simp (disch := omega) [f1, f2, f5, f7, f8, hw1, hXc]
        exact ⟨by omega, rfl, _, a', b', ⟨⟨rfl, rfl⟩, rfl⟩, (hx.trans x2).trans x3, sa2, sb2⟩
      · have hi0' : ¬ (i : Int) = 0 := by omega
        obtain ⟨k, rfl⟩ : ∃ k, i = k + 1 := ⟨i - 1, by omega⟩
        obtain ⟨u1, u2, u3, u4, u5⟩ := (hv.mono ((hx.trans x2).trans x3)).load (i := k) (by rw [hndL_len]; omega)
        rw [hndL_get (by omega)] at u4 u5
        have pk := hv.at (i := k) (by rw [hndL_len]; omega)
        have ek : ((k + 1 : Nat) : Int) - 1 = (k : Int) := by omega
        have hbk := hnd_bd (i := k) of n1
        have hck := cnt_hnd of0 n1 c0.1 (i := k)
        obtain ⟨r1, r2', r3⟩ := dT_step (f := f) (n := n) n1 c0.1 k
        have hmk := mean_side hbk (by rw [hck]; omega)
        have hfall := mean_falls (i := k) of n1 hlt
        have db0 := mean_bd2 (i := k) of n1
        have db1 := mean_bd2 (i := k + 1) of n1
        have hwk : IntKind.i64.wrap (k : Int) = k := wrap_i64 (by omega) (by omega)
        have e0' : ¬ (k : Int) + 1 = 0 := by omega
        push_cast at *
        simp [f1, f2, f5, f7, f8, e0', hwk, pk, u3, u4.sl.stor, u5.sl.stor, Int.add_sub_cancel]
        refine hair_Mean (BunV.mk u4.sl u5.sl) (by omega) fun H4 x4 => ?_
        replace x4 : HX H3 H4 := x4
        have l4 := x4.len
        rw [hmk]
        obtain ⟨t1, t2, t3, t4, t5⟩ := (hv.mono (((hx.trans x2).trans x3).trans x4)).load (i := k + 1) (by rw [hndL_len]; omega)
        rw [hndL_get ht] at t4 t5
        simp [f1, f2, f5, f7, f8, pa, t3, t4.sl.stor, t5.sl.stor]
        refine hair_Mean (BunV.mk t4.sl t5.sl) (by omega) fun H5 x5 => ?_
        replace x5 : HX H4 H5 := x5
        have l5 := x5.len
        rw [hmean]
        have pm1 := mul_bd (a := mnum (hndF f n k)) (b := mden (hndF f n (k + 1))) ⟨db0.1, db0.2.1⟩ ⟨db1.2.2.1, db1.2.2.2⟩
        have pm2 := mul_bd (a := mnum (hndF f n (k + 1))) (b := mden (hndF f n k)) ⟨db1.1, db1.2.1⟩ ⟨db0.2.2.1, db0.2.2.2⟩
        have hfall2 : ¬ mnum (hndF f n k) * mden (hndF f n (k + 1)) < mnum (hndF f n (k + 1)) * mden (hndF f n k) := by omega
        have w1 : IntKind.i64.wrap (mnum (hndF f n k) * mden (hndF f n (k + 1))) = mnum (hndF f n k) * mden (hndF f n (k + 1)) := wrap_i64 (by omega) (by omega)
        have w2 : IntKind.i64.wrap (mnum (hndF f n (k + 1)) * mden (hndF f n k)) = mnum (hndF f n (k + 1)) * mden (hndF f n k) := wrap_i64 (by omega) (by omega)
        have w3 : IntKind.i64.wrap ((k : Int) + 1 + 1) = (k : Int) + 1 + 1 := wrap_i64 (by omega) (by omega)
        simp [f1, f2, f5, f7, f8, hXc, w1, w2, w3, hfall2, haLo, haLo0, r20, r21]
        exact ⟨by omega, _, a', b', ⟨⟨rfl, rfl⟩, rfl⟩, (((hx.trans x2).trans x3).trans x4).trans x5, (sa2.mono x4).mono x5, (sb2.mono x4).mono x5⟩
  · have hge : ¬ i < hndQ f n := by omega
    have : i = hndQ f n := by omega
    subst this
    have hend : dT f n (hndQ f n) = cntF f := by
      have := fun h => hge (hT.1 h); omega
    rw [hend] at sa sb
    have ea : sideF (drw f (cntF f)) 0 = sideF f 0 := side_congr fun L h1 h2 => drw_all of0 (by omega) h1 h2
    have eb : sideF (drw f (cntF f)) 1 = sideF f 1 := side_congr fun L h1 h2 => drw_all of0 (by omega) h1 h2
    rw [ea] at sa
    rw [eb] at sb
    simp [f2, f7, sa.stor, sb.stor, hb.stor.1, hb.load, r2]
    refine hair_Same (BunV.mk sa sb) (hb.mono (x1.trans hx)) (by omega) fun H2 x2 => ?_
    replace x2 : HX H' H2 := x2
    have l2 := x2.len
    have hs := same_of (r := sideF f 0) (w := sideF f 1) (r' := r) (w' := w) (err_side fun a b _ _ _ => of a b) e0 (fun a L h1 h2 h3 => by rw [← hF]; exact op_side (fun a b _ _ _ => of a b) h1 h2 h3)
    simp [hs.1, hs.2]
    refine law_known (by omega) fun H3 _ => ?_
    simp; exact hK _
end
end Go.Proofs.Ytgmbjfdhbfhmgaa.Vm
