/- Laws of hair over the machine: TopHairs. -/
import Derived.Test.YtgmbjfdhbfhmgaaHaU
import Derived.Test.YtgmbjfdhbfhmgaaVmArg
namespace Go.Proofs.Ytgmbjfdhbfhmgaa.Vm
open Go
set_option maxRecDepth 100000
set_option linter.unusedSimpArgs false
set_option linter.unusedVariables false
attribute [-simp] List.getD_eq_getElem?_getD

structure Wk where
  k : Int
  a : Int
  b : Int
  c : Int
  deriving Inhabited
def Wk.cells (x : Wk) : List V := [.int .i64 x.k, .int .i64 x.a, .int .i64 x.b, .int .i64 x.c]
def wkC : Cod Wk 4 := ⟨Wk.cells, fun _ => rfl⟩
def Wk.ok (x : Wk) : Prop := I64 x.a ∧ I64 x.b ∧ I64 x.c
/-- a list of steps -/
structure WksV (H : Hp) (v : V) (l : List Wk) : Prop where
  lst : LstV wkC H v l
  all : ∀ x ∈ l, x.ok
theorem WksV.mono {H H' : Hp} {v : V} {l : List Wk} (hx : HX H H') (h : WksV H v l) : WksV H' v l := ⟨h.lst.mono hx, h.all⟩
theorem works_of {H : Hp} {v : V} {d : CD} (h : RepT H (.sl [cInt, cInt, cInt, cInt]) v d) : ∃ l, WksV H v l := by
  obtain ⟨l, h1, _, h3⟩ := lst_of (c := wkC) rfl (fun z => z.ok) (fun vs ds h => by
    obtain ⟨v0, u0, _, _, rfl, _, p0, q0⟩ := reps_cons h
    obtain ⟨v1, u1, _, _, rfl, _, p1, q1⟩ := reps_cons q0
    obtain ⟨v2, u2, _, _, rfl, _, p2, q2⟩ := reps_cons q1
    obtain ⟨v3, u3, _, _, rfl, _, p3, q3⟩ := reps_cons q2
    have e := reps_nil q3
    subst e
    obtain ⟨n0, rfl, c0⟩ := int_of p0
    obtain ⟨n1, rfl, c1⟩ := int_of p1
    obtain ⟨n2, rfl, c2⟩ := int_of p2
    obtain ⟨n3, rfl, c3⟩ := int_of p3
    exact ⟨⟨n0, n1, n2, n3⟩, rfl, c1, c2, c3⟩) h
  exact ⟨l, h1, h3⟩

section
variable {lim : Nat} {H : Hp} {K : V → Hp → Prop} {r w r' w' : List Int} {av bv lv : V} {l : List Wk}

theorem lackD_at {f g : HF} : ∀ k, k ≤ 24 → lackD f g k ≠ 0 → ∃ m, lackD f g k = m + 1 ∧ m < 24 ∧ abv f (24 - m) < abv g (24 - m)
  | 0, _, h => absurd rfl h
  | k + 1, hk, h => by
    simp only [lackD] at h ⊢
    split
    · rename_i hc; exact ⟨k, rfl, by omega, hc⟩
    · rename_i hc
      rw [if_neg hc] at h
      exact lackD_at k (by omega) h

theorem law_TopHairs (ha : BunV H r w av) (hb : BunV H r' w' bv) (hl : WksV H lv l) (hlim : lim ≤ H.length) (hK : ∀ H', K (.bool true) H') : VCall tbl lim 16 [av, bv, lv] H K := by
  obtain ⟨hx, hy⟩ := ha
  obtain ⟨gx, gy⟩ := hb
  rename_i rv wv rv' wv'
  have ha : BunV H r w (.agg [rv, wv]) := .mk hx hy
  have hb : BunV H r' w' (.agg [rv', wv']) := .mk gx gy
  have r2 : ∀ a b : V, rd (some 2) [a, b] 0 = some (.agg [a, b]) := fun _ _ => rfl
  refine VCall_fn tbl_at16 rfl ?_
  simp [vf16, hx.stor, hy.stor, hx.one, hy.one, gx.stor, gy.stor, gx.one, gy.one]
  have hlit : SlV (H ++ [.row [.int .i64 0, .int .i64 2] true]) (.sl H.length 0 2 1) [0, 2] := SlV.lit (own := true) (by rw [List.getElem?_concat_length]; rfl) rfl
  have k1 : cntF (op [0, 2] []) = 2 := by decide +kernel
  have k2 : inF (op [0, 2] []) = 4 := by decide +kernel
  have k3 : errOf [0, 2] [] = 0 := by decide +kernel
  refine top_counted (BunV.mk hlit .nil) (by simp; omega) fun H1 x1 => ?_
  replace x1 : HX H H1 := HX.trans HX.push x1
  have l1 := x1.len
  rw [k1, k2, k3]
  simp [hx.stor, hy.stor, r2]
  refine law_Long (ha.mono x1) ?_
  by_cases hl1 : 100 < r.length ∨ 100 < w.length
  · have hl1' : (decide (100 < r.length) || decide (100 < w.length)) = true := by simpa using hl1
    simp [hl1']
    exact hK _
  have hl1' : (decide (100 < r.length) || decide (100 < w.length)) = false := by simp; omega
  simp [hl1', gx.stor, gy.stor, r2]
  refine law_Long (hb.mono x1) ?_
  by_cases hl2 : 100 < r'.length ∨ 100 < w'.length
  · have hl2' : (decide (100 < r'.length) || decide (100 < w'.length)) = true := by simpa using hl2
    simp [hl2']
    exact hK _
  have hl2' : (decide (100 < r'.length) || decide (100 < w'.length)) = false := by simp; omega
  have hll := hl.lst.len
  by_cases hl3 : 40 < l.length
  · have hl3' : (40 : Int) < l.length := by omega
    simp [hl2', hll, hl3']
    exact hK _
  have hl3' : ¬ (40 : Int) < l.length := by omega
  simp [hl2', hll, hl3', hx.stor, hy.stor, r2]
  refine hair_Validate (ha.mono x1) ?_
  by_cases he : errOf r w = 0
  case neg =>
    simp [he]
    exact hK _
  simp [he, hx.stor, hy.stor, r2]
  refine top_counted (ha.mono x1) (by omega) fun H2 x2 => ?_
  replace x2 : HX H1 H2 := x2
  have l2 := x2.len
  have c0 := cntF_op2 (r := r) (w := w)
  have i0 := inF_bd (f := op r w) op_bd
  simp
  refine wLoop_up l.length (fun i fr L H' => ∃ (X : Lo) (p q : V) (ri wi : List Int) (count gone long : Int), (fr 2 = lv ∧ fr 3 = .lp 0 0 ∧ fr 4 = .lp 1 0 ∧ fr 10 = .int .i64 count ∧ fr 11 = .int .i64 (inF (op r w)) ∧ fr 13 = .int .i64 gone ∧ fr 14 = .int .i64 long ∧ fr 15 = .int .i64 (i : Int)) ∧
    L = [p, q] :: [rv', wv'] :: X ∧ HX H2 H' ∧ SlV H' p ri ∧ SlV H' q wi ∧ errOf ri wi = 0 ∧ cntF (op ri wi) + gone = count ∧ inF (op ri wi) + long = inF (op r w) ∧ 0 ≤ gone ∧ 0 ≤ long ∧ count ≤ 48000000 + i * 2000000)
    ⟨[], rv, wv, r, w, cntF (op r w), 0, 0, by simp, by simp, .refl, hx.mono (x1.trans x2), hy.mono (x1.trans x2), he, by omega, by omega, by omega, by omega, by simp; omega⟩ ?_
  rintro i hi fr L H' ⟨X, p, q, ri, wi, count, gone, long, ⟨f2, f3, f4, f10, f11, f13, f14, f15⟩, rfl, hxx, sp, sq, hei, hcnt, hinc, hg0, hlo0, hcb⟩
  have hxl := hxx.len
  have ci := cntF_op2 (r := ri) (w := wi)
  have ii := inF_bd (f := op ri wi) op_bd
  simp [f2, f3, f4, f10, f11, f13, f14, f15, hll]
  refine cond_dec (fun ht => ?_) fun hf => ?_
  · have hl4 := hl.mono ((x1.trans x2).trans hxx)
    have pa := hl4.lst.at ht
    have pl := fun L => hl4.lst.load (L := L) ht
    have ok := hl.all (l.getD i default) (by simp [List.getD_eq_getElem?_getD, ht])
    generalize l.getD i default = z at *
    obtain ⟨zk, za, zb, zc⟩ := z
    simp only [wkC, Wk.cells] at pl
    simp [f2, f3, f4, f10, f11, f13, f14, f15, sp.stor, sq.stor, r2, pa, pl]
    refine top_prepared (BunV.mk sp sq) hei (by omega) ok.1 ok.2.1 ok.2.2 fun H3 o s ro wo ra wa more okb x3 ho hs hpr => ?_
    replace x3 : HX H' H3 := x3
    have l3 := x3.len
    obtain ⟨o1, o2⟩ := ho
    obtain ⟨s1, s2⟩ := hs
    cases okb with
    | false =>
      simp (disch := omega) [f2, f3, f4, f10, f11, f13, f14, f15, o1.stor, o2.stor, o1.one, o2.one, s1.stor, s2.stor, s1.one, s2.one, haLo, haLo0, wrap_i64]
      exact ⟨by omega, _, _, _, ri, wi, _, _, _, ⟨rfl, rfl, rfl⟩, ⟨⟨rfl, rfl⟩, rfl⟩, hxx.trans x3, sp.mono x3, sq.mono x3, hei, hcnt, hinc, hg0, hlo0, by omega⟩
    | true =>
      have pr := hpr rfl
      obtain ⟨eo, ea, pc, pi, pm⟩ := pr
      simp [f2, f3, f4, f10, f11, f13, f14, f15, o1.stor, o2.stor, o1.one, o2.one, s1.stor, s2.stor, s1.one, s2.one, haLo, haLo0, r2]
      refine top_counted (BunV.mk s1 s2) (by omega) fun H4 x4 => ?_
      replace x4 : HX H3 H4 := x4
      have l4 := x4.len
      simp [f2, f3, f4, f10, f11, f13, f14, f15, o1.stor, o2.stor, haLo, haLo0, r2]
      refine top_counted (BunV.mk (o1.mono x4) (o2.mono x4)) (by omega) fun H5 x5 => ?_
      replace x5 : HX H4 H5 := x5
      have l5 := x5.len
      have co := cntF_op2 (r := ro) (w := wo)
      have io := inF_bd (f := op ro wo) op_bd
      have ca := cntF_op2 (r := ra) (w := wa)
      have ia := inF_bd (f := op ra wa) op_bd
      rw [eo, ea]
      generalize hco : cntF (op ro wo) = co1 at *
      generalize hio : inF (op ro wo) = io1 at *
      generalize cntF (op ra wa) = ca1 at *
      generalize inF (op ra wa) = ia1 at *
      generalize cntF (op ri wi) = ci1 at *
      generalize inF (op ri wi) = ii1 at *
      generalize inF (op r w) = i01 at *
      have q1 : co1 + (gone + ca1) = count + more := by omega
      have q2 : io1 + (long + ia1) = i01 := by omega
      simp (disch := omega) [f2, f3, f4, f10, f11, f13, f14, f15, o1.stor, o2.stor, o1.one, o2.one, haLo, haLo0, r2, wrap_i64, q1, q2]
      exact ⟨by omega, _, _, _, ro, wo, _, _, _, ⟨rfl, rfl, rfl⟩, ⟨⟨rfl, rfl⟩, rfl⟩, ((hxx.trans x3).trans x4).trans x5, (o1.mono x4).mono x5, (o2.mono x4).mono x5, eo, by rw [hco]; omega, by rw [hio]; omega, by omega, by omega, by omega⟩
  · have : i = l.length := by omega
    subst this
    simp [f3, f4, sp.stor, sq.stor, gx.stor, gy.stor, r2]
    refine hair_Cut (BunV.mk sp sq) (hb.mono ((x1.trans x2).trans hxx)) (by omega) fun H3 _ x3 o3 => ?_
    replace x3 : HX H' H3 := x3
    have l3 := x3.len
    obtain ⟨d1, d2⟩ := o3
    simp [f3, f4, sp.stor, sq.stor, gx.stor, gy.stor, d1.sl.stor, d2.sl.stor, d1.sl.one, d2.sl.one, r2, haLo, haLo0]
    refine hair_Lack (BunV.mk (sp.mono x3) (sq.mono x3)) (hb.mono (((x1.trans x2).trans hxx).trans x3)) (by omega) fun H4 x4 => ?_
    replace x4 : HX H3 H4 := x4
    have l4 := x4.len
    by_cases he2 : er2 ri wi r' w' = 0
    case neg =>
      have h1 : (lackP ri wi r' w').2.2 = er2 ri wi r' w' := by simp [lackP, he2]
      have h2 : (cutP ri wi r' w').2.2.2 = er2 ri wi r' w' := by simp [cutP, he2]
      simp [h1, h2, he2]
      exact hK _
    have h1 : (lackP ri wi r' w').2.2 = 0 := by simp [lackP, he2]
    have cl := cut_lack (op_mil (r := ri) (w := wi)) (fun x n => (op_mil (r := r') (w := w') x n).1)
    have h3 : (lackP ri wi r' w').2.1 = cutBad (op ri wi) (op r' w') 24 := by simp only [lackP, he2, if_true, cl]
    have ee := er2_zero he2
    cases hbad : cutBad (op ri wi) (op r' w') 24 with
    | true =>
      have h2 : (cutP ri wi r' w').2.2.2 = 6 := by simp [cutP, he2, hbad]
      have h4 : (lackP ri wi r' w').1 = (lackD (op ri wi) (op r' w') 24 : Nat) := by simp [lackP, he2]
      rw [hbad] at cl
      obtain ⟨m, e1, e2, e3⟩ := lackD_at (f := op ri wi) (g := op r' w') 24 (by omega) (by intro h; rw [h] at cl; simp at cl)
      have aB : ∀ a b : List Int, aboveS (opened a b) ((m + 1 : Nat) : Int) = abv (op a b) (24 - m) := by
        intro a b
        rw [opened_mk, aboveS_mk]
        have : kA (((m + 1 : Nat) : Int)) = 24 - m := by push_cast; exact kA_nat e2
        rw [this]
      rw [e1] at h4
      simp [h1, h2, h3, h4, hbad, f3, f4, sp.stor, sq.stor, r2]
      have hm64 : I64 ((m : Int) + 1) := ⟨by omega, by omega⟩
      refine hair_Above (BunV.mk ((sp.mono x3).mono x4) ((sq.mono x3).mono x4)) (by omega) hm64 fun H5 x5 => ?_
      replace x5 : HX H4 H5 := x5
      have l5 := x5.len
      simp [f3, f4, gx.stor, gy.stor, r2]
      refine hair_Above (hb.mono ((((x1.trans x2).trans hxx).trans x3).trans (x4.trans x5))) (by omega) hm64 fun H6 x6 => ?_
      have a1 := aB ri wi
      have a2 := aB r' w'
      push_cast at a1 a2
      simp [hei, ee.2, a1, a2, e3]
      exact hK _
    | false =>
      have h2 : (cutP ri wi r' w').2.2.2 = 0 := by simp [cutP, he2, hbad]
      obtain ⟨ce, ci2⟩ := cut_law he2 hbad
      have iop : ∀ a b : List Int, inchesS (opened a b) = inF (op a b) := fun a b => by rw [opened_mk]; rfl
      rw [iop] at ci2
      have bd := cutH_bd (g := op r' w') (op_mil (r := ri) (w := wi)) 24
      have cc := (cut_sums (op_mil (r := ri) (w := wi)) (fun x n => (op_mil (r := r') (w := w') x n).1) 24 (by omega) hbad).1 24 (by omega) (by omega)
      have cx : cntF (op (cutP ri wi r' w').1 (cutP ri wi r' w').2.1) = cntF (op ri wi) - cntF (op r' w') := by
        simp only [cutP, he2, hbad, if_true, Bool.false_eq_true, if_false]
        rw [(cnt_op_side fun w n _ _ _ => bd w n).1]; exact cc
      have bl : 0 ≤ (cutP ri wi r' w').2.2.1 ∧ (cutP ri wi r' w').2.2.1 ≤ 28800000000 := by
        have := cutLo_bd (g := op r' w') (op_mil (r := ri) (w := wi)) 24 (by omega)
        simp only [cutP, he2, hbad, if_true, Bool.false_eq_true, if_false]; omega
      have b1 := cntF_op2 (r := r') (w := w')
      have b2 := inF_bd (f := op r' w') op_bd
      have b3 := cntF_op2 (r := (cutP ri wi r' w').1) (w := (cutP ri wi r' w').2.1)
      have b4 := inF_bd (f := op (cutP ri wi r' w').1 (cutP ri wi r' w').2.1) op_bd
      simp [h1, h2, h3, hbad, f3, f4, d1.sl.stor, d2.sl.stor, r2, haLo, haLo0]
      refine top_counted (BunV.mk (d1.sl.mono x4) (d2.sl.mono x4)) (by omega) fun H5 x5 => ?_
      replace x5 : HX H4 H5 := x5
      have l5 := x5.len
      simp [f3, f4, gx.stor, gy.stor, r2]
      refine top_counted (hb.mono ((((x1.trans x2).trans hxx).trans x3).trans (x4.trans x5))) (by omega) fun H6 x6 => ?_
      rw [ce, ee.2]
      generalize cntF (op (cutP ri wi r' w').1 (cutP ri wi r' w').2.1) = cr at *
      generalize inF (op (cutP ri wi r' w').1 (cutP ri wi r' w').2.1) = ir at *
      generalize (cutP ri wi r' w').2.2.1 = lo at *
      generalize cntF (op r' w') = cg at *
      generalize inF (op r' w') = ig at *
      generalize cntF (op ri wi) = cf at *
      generalize inF (op ri wi) = jf at *
      generalize inF (op r w) = i01 at *
      have q1 : cr + cg + gone = count := by omega
      have q2 : ir + ig + lo + long = i01 := by omega
      simp (disch := omega) [f10, f11, f13, f14, wrap_i64, q1, q2]
      exact hK _
end
end Go.Proofs.Ytgmbjfdhbfhmgaa.Vm
