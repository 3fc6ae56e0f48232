/- Laws of hair over the machine: HairHandfuls. -/
import Derived.Test.YtgmbjfdhbfhmgaaHaR
namespace Go.Proofs.Ytgmbjfdhbfhmgaa.Vm
open Go
set_option maxRecDepth 100000
set_option linter.unusedSimpArgs false
set_option linter.unusedVariables false
attribute [-simp] List.getD_eq_getElem?_getD

section
variable {lim : Nat} {H : Hp} {K : V → Hp → Prop} {r w : List Int} {bv : V} {n : Int}

set_option maxHeartbeats 1000000 in
theorem ref01_Handfuls (hb : BunV H r w bv) (hlim : lim ≤ H.length) (hn : I64 n) (hE : ∀ H', HX H H' → hfE r w n ≠ 0 → K (.tup [.snil, .int .i64 (hfE r w n)]) H')
    (hK : ∀ H' v ps, HX H H' → hfE r w n = 0 → errOf r w = 0 → 1 ≤ n → HfV H.length H' v (hndL (op r w) n (hndQ (op r w) n)) ps → K (.tup [v, .int .i64 0]) H') : VCall tbl lim 55 [bv, .int .i64 n] H K := by
  refine VCall_fn tbl_at55 rfl ?_
  simp [vf55, hb.stor.1, hb.load]
  refine ref01_Validate hb ?_
  simp
  refine cond_ndec (fun he => ?_) fun he => ?_
  · have := hE H .refl
    simp only [hfE, he, if_false] at this
    simp
    exact this he
  simp
  refine cond_dec (fun h1 => ?_) fun h1 => ?_
  · have := hE H .refl
    simp only [hfE, he, if_true, h1] at this
    simp
    exact this (by decide)
  simp [hb.stor.1, hb.load]
  refine ref01_open2 hb he ?_
  have of := op_mil (r := r) (w := w)
  have of0 := fun a b => (of a b).1
  have of9 := op_bd' (r := r) (w := w)
  have c0 := cntF_op (r := r) (w := w)
  simp only [hfE, he, if_true, h1, if_false] at hE hK
  generalize op r w = f at *
  simp
  refine ref01_above2 of9 ?_
  have hkA : kA 0 = 24 := by decide
  have hT0 := dT_zero (f := f) (n := n) c0.1
  have hm0 : mk50 (subF f (drw f (dT f n 0))) = mk50 f := mk50_congr fun w L hw h1 h2 => by
    have := of0 w L
    have := of0 0 L
    rw [hT0]
    have ha := (abv_nonneg (f := f) of9 (24 - L)).1
    simp only [subF, drw]
    split
    · rename_i h; subst h; omega
    · omega
  have hQ200 : hndQ f n ≤ 200 ↔ ¬ 200 * n < cntF f := by
    have := hndQ_iff (f := f) (n := n) (by omega) c0.1 (i := 200)
    constructor
    · intro h h2
      have := this.2 (by omega); omega
    · intro h
      by_cases h2 : 200 < hndQ f n
      · have := this.1 h2; omega
      · omega
  rw [hkA]
  rw [show abv f 24 = cntF f from rfl]
  simp
  refine wLoop_up (min (hndQ f n) 200) (fun i fr L H' => ∃ (X : Lo) (u : V) (ps : List (V × V)), (fr 1 = .int .i64 n ∧ fr 7 = .lp 1 0 ∧ fr 8 = u ∧ fr 9 = .int .i64 (cntF f - dT f n i)) ∧ L = cellsV bv :: ints (mk50 (subF f (drw f (dT f n i)))) :: X ∧ HX H H' ∧ H.length ≤ H'.length ∧ HfV H.length H' u (hndL f n i) ps) ⟨[], .snil, [], by simp [hT0], by simp [hm0], .refl, Nat.le_refl _, .nil⟩ ?_
  rintro i hi fr L H' ⟨X, u, ps, ⟨f1, f7, f8, f9⟩, rfl, hx, hl, hu⟩
  have hXc : ∀ c : List V, (X ++ [c])[X.length]? = some c := fun _ => List.getElem?_concat_length
  have hXd : ∀ c d : List V, (X ++ [c, d])[X.length]? = some c := fun c d => by simp
  have hXe : ∀ c d : List V, (X ++ [c, d])[X.length + 1]? = some d := fun c d => by rw [List.getElem?_append_right (by omega)]; simp
  obtain ⟨s1, s2, s3⟩ := dT_step (f := f) (n := n) (by omega) c0.1 i
  have iq := hndQ_iff (f := f) (n := n) (by omega) c0.1 (i := i)
  have hT : dT f n i < cntF f ↔ i < hndQ f n := by
    rw [iq]; simp only [dT]; omega
  have sb := subF_bd (f := f) (g := drw f (dT f n i)) (fun a b => drw_bd of a b) of
  have sb9 : ∀ a b, 0 ≤ subF f (drw f (dT f n i)) a b ∧ subF f (drw f (dT f n i)) a b ≤ 1000000000 := fun a b => ⟨(sb a b).1, by have := (sb a b).2; omega⟩
  have cl := cnt_left of0 (m := dT f n (i + 1)) (by omega)
  have sb' := subF_bd (f := f) (g := drw f (dT f n (i + 1))) (fun a b => drw_bd of a b) of
  simp [f1, f7, f8, f9]
  refine cond_dec (fun ht => ?_) fun hf => ?_
  · have hlt : i < hndQ f n := hT.1 (by omega)
    have hvl := hu.vlen
    rw [hndL_len] at hvl
    simp [f1, f7, f8, f9, hvl]
    refine cond_dec (fun h200 => ?_) fun h200 => ?_
    · have hbig : 200 * n < cntF f := by
        by_cases h : 200 * n < cntF f
        · exact h
        · have := hQ200.2 h; omega
      have := hE H' hx
      simp only [hbig, if_true] at this
      simp
      exact this (by decide)
    simp [f1, f7, f8, f9]
    refine cond_dec (fun hlt2 => ?_) fun hlt2 => ?_
    · have em : n = min n (cntF f - dT f n i) := by omega
      simp [f1, f7, f8, f9]
      refine ref01_draw (by omega) sb9 ?_
      simp (disch := omega) [f1, f7, f8, f9, hXd, hXe, hXc]
      refine ref01_tie (by omega) fun H2 v x2 o2 => ?_
      replace x2 : HX H' H2 := x2
      have l2 := x2.len
      obtain ⟨q1, q2⟩ := o2
      rename_i a b
      have eh : ∀ w, w < 2 → sideF (drw (subF f (drw f (dT f n i))) n) w = sideF (hndF f n i) w := fun w hw => side_congr fun L g1 g2 => by have hnd := hnd_drw of0 (show 1 ≤ n by omega) c0.1 (i := i) hw g1 g2; rw [← em] at hnd; exact hnd
      rw [eh 0 (by omega)] at q1
      rw [eh 1 (by omega)] at q2
      obtain ⟨v', H3, e1, e2, e3, e4⟩ := hu.append (lim := lim) x2 (q1.le (by omega)) (q2.le (by omega)) ⟨by omega, hl⟩ (by rw [hndL_len]; omega)
      have sm := (sub_hnd of0 (show 1 ≤ n by omega) c0.1 (i := i)).2
      rw [← em] at sm
      have smS : (mk50 fun w L => subF f (drw f (dT f n i)) w L - drw (subF f (drw f (dT f n i))) n w L) = mk50 (subF f (drw f (dT f n (i + 1)))) := sm
      simp [f1, f7, f8, f9, q1.sl.stor, q2.sl.stor, q1.sl.one, q2.sl.one, e1, hXd, hXe, hXc, smS]
      refine ref01_above2 (fun a b => ⟨(sb' a b).1, by have := (sb' a b).2; omega⟩) ?_
      rw [hkA]
      rw [show abv (subF f (drw f (dT f n (i + 1)))) 24 = cntF f - dT f n (i + 1) from cl]
      simp [f1, f7, f8, f9]
      exact ⟨by omega, e3 H hx (by omega), by omega, ps ++ [(a, b)], by rw [hndL_snoc]; exact e2⟩
    · have em : (cntF f - dT f n i) = min n (cntF f - dT f n i) := by omega
      simp [f1, f7, f8, f9]
      refine ref01_draw (by omega) sb9 ?_
      simp (disch := omega) [f1, f7, f8, f9, hXd, hXe, hXc]
      refine ref01_tie (by omega) fun H2 v x2 o2 => ?_
      replace x2 : HX H' H2 := x2
      have l2 := x2.len
      obtain ⟨q1, q2⟩ := o2
      rename_i a b
      have eh : ∀ w, w < 2 → sideF (drw (subF f (drw f (dT f n i))) (cntF f - dT f n i)) w = sideF (hndF f n i) w := fun w hw => side_congr fun L g1 g2 => by have hnd := hnd_drw of0 (show 1 ≤ n by omega) c0.1 (i := i) hw g1 g2; rw [← em] at hnd; exact hnd
      rw [eh 0 (by omega)] at q1
      rw [eh 1 (by omega)] at q2
      obtain ⟨v', H3, e1, e2, e3, e4⟩ := hu.append (lim := lim) x2 (q1.le (by omega)) (q2.le (by omega)) ⟨by omega, hl⟩ (by rw [hndL_len]; omega)
      have sm := (sub_hnd of0 (show 1 ≤ n by omega) c0.1 (i := i)).2
      rw [← em] at sm
      have smS : (mk50 fun w L => subF f (drw f (dT f n i)) w L - drw (subF f (drw f (dT f n i))) (cntF f - dT f n i) w L) = mk50 (subF f (drw f (dT f n (i + 1)))) := sm
      simp [f1, f7, f8, f9, q1.sl.stor, q2.sl.stor, q1.sl.one, q2.sl.one, e1, hXd, hXe, hXc, smS]
      refine ref01_above2 (fun a b => ⟨(sb' a b).1, by have := (sb' a b).2; omega⟩) ?_
      rw [hkA]
      rw [show abv (subF f (drw f (dT f n (i + 1)))) 24 = cntF f - dT f n (i + 1) from cl]
      simp [f1, f7, f8, f9]
      exact ⟨by omega, e3 H hx (by omega), by omega, ps ++ [(a, b)], by rw [hndL_snoc]; exact e2⟩
  · have hge : ¬ i < hndQ f n := fun h => hf (by have := hT.2 h; omega)
    have : i = hndQ f n := by omega
    subst this
    have hsm : ¬ 200 * n < cntF f := hQ200.1 (by omega)
    simp only [hsm, if_false] at hK
    simp [f8, hu.own.lst.stor]
    exact hK H' u ps hx trivial trivial (by omega) hu

theorem ref01_EqualAll {n m : Nat} {a b : V} {fs : List HF} {ps qs : List (V × V)} (ha : HfV n H a fs ps) (hb : HfV m H b fs qs) (hl : fs.length ≤ 1000000) (hK : K (.bool true) H) : VCall tbl lim 56 [a, b] H K := by
  refine VCall_fn tbl_at56 rfl ?_
  simp [vf56, ha.vlen, hb.vlen]
  refine wLoop_up fs.length (fun i fr L H' => (fr 0 = a ∧ fr 1 = b ∧ fr 5 = .int .i64 (i : Int)) ∧ L = [] ∧ H' = H) ⟨by simp, rfl, rfl⟩ ?_
  rintro i hi fr L H' ⟨⟨f0, f1, f5⟩, rfl, rfl⟩
  simp [f0, f1, f5, ha.vlen]
  refine cond_dec (fun ht => ?_) fun hf => ?_
  · obtain ⟨a1, a2, a3, a4, a5⟩ := ha.load (i := i) (by omega)
    obtain ⟨b1, b2, b3, b4, b5⟩ := hb.load (i := i) (by omega)
    have l1 := listN_len24 (f := fs.getD i zF) (w := 0)
    have l2 := listN_len24 (f := fs.getD i zF) (w := 1)
    simp [f0, f1, f5, ha.at ht, hb.at ht, a3, b3, a4.sl.stor, a5.sl.stor, b4.sl.stor, b5.sl.stor]
    refine ref01_Equal (BunV.mk a4.sl a5.sl) (BunV.mk b4.sl b5.sl) (by omega) (by omega) ?_
    simp (disch := omega) [f0, f1, f5, wrap_i64]
    omega
  · simp; exact hK

theorem law_HairHandfuls (hb : BunV H r w bv) (hlim : lim ≤ H.length) (hn : I64 n) (hK : ∀ H', K (.bool true) H') : VCall tbl lim 12 [bv, .int .i64 n] H K := by
  refine VCall_fn tbl_at12 rfl ?_
  simp [vf12, hb.stor.1, hb.load]
  refine law_Long hb ?_
  simp
  refine cond_bool (fun hl => ?_) fun hl => ?_
  · simp; refine law_known hlim fun H1 _ => ?_; simp; exact hK H1
  simp [hb.stor.1, hb.load]
  refine hair_Handfuls hb hlim hn (fun H1 x1 he => ?_) fun H1 v ps x1 he e0 n1 hv => ?_
  · replace x1 : HX H H1 := x1
    have l1 := x1.len
    simp [hb.stor.1, hb.load]
    refine ref01_Handfuls (hb.mono x1) (by omega) hn (fun H2 x2 _ => ?_) fun H2 v ps x2 he2 => absurd he2 he
    replace x2 : HX H1 H2 := x2
    have l2 := x2.len
    simp
    refine ref01_EqualAll (n := 0) (m := 0) HfV.nil HfV.nil (by simp) ?_
    simp
    refine law_known (by omega) fun H3 _ => ?_
    simp; exact hK _
  · replace x1 : HX H H1 := x1
    have l1 := x1.len
    simp [hb.stor.1, hb.load, hv.own.lst.stor]
    refine ref01_Handfuls (hb.mono x1) (by omega) hn (fun H2 x2 he2 => absurd he he2) fun H2 u qs x2 _ _ _ hu => ?_
    replace x2 : HX H1 H2 := x2
    have l2 := x2.len
    have hQ : hndQ (op r w) n ≤ 1000000 := by
      have c0 := cntF_op (r := r) (w := w)
      simp only [hfE, e0, if_true, show ¬ n < 1 by omega, if_false] at he
      have := hndQ_iff (f := op r w) (n := n) (by omega) c0.1 (i := 200)
      by_cases h2 : 200 < hndQ (op r w) n
      · have := this.1 h2
        rw [if_pos (by omega)] at he; cases he
      · omega
    simp [hv.own.lst.stor, hu.own.lst.stor]
    refine ref01_EqualAll (hv.mono x2) hu (by rw [hndL_len]; exact hQ) ?_
    simp
    refine law_known (by omega) fun H3 _ => ?_
    simp; exact hK _
end
end Go.Proofs.Ytgmbjfdhbfhmgaa.Vm
