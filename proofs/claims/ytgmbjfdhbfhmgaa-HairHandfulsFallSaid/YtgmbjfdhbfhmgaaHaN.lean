/- Laws of hair over the machine: drawing takes the longest. -/
import Derived.Test.YtgmbjfdhbfhmgaaHaM
namespace Go.Proofs.Ytgmbjfdhbfhmgaa.Vm
open Go
set_option maxRecDepth 100000
set_option linter.unusedSimpArgs false
set_option linter.unusedVariables false
attribute [-simp] List.getD_eq_getElem?_getD

theorem drawP_cases (r w : List Int) (n : Int) : (∃ e, e ≠ 0 ∧ drawP r w n = errQ e) ∨ (errOf r w = 0 ∧ 0 ≤ n ∧ n ≤ cntF (op r w) ∧ drawP r w n = part2 (drw (op r w) n) (subF (op r w) (drw (op r w) n))) := by
  unfold drawP
  by_cases e : errOf r w = 0
  · rw [if_pos e]
    by_cases h1 : n < 0
    · rw [if_pos h1]; exact Or.inl ⟨1, by omega, rfl⟩
    · rw [if_neg h1]
      by_cases h2 : cntF (op r w) < n
      · rw [if_pos h2]; exact Or.inl ⟨6, by omega, rfl⟩
      · rw [if_neg h2]; exact Or.inr ⟨e, by omega, by omega, rfl⟩
  · rw [if_neg e]; exact Or.inl ⟨_, e, rfl⟩

section
variable {lim : Nat} {H : Hp} {av bv : V} {r w r' w' : List Int} {K : V → Hp → Prop}

theorem law_HairDrawsLongest (hb : BunV H r w bv) (hlim : lim ≤ H.length) {n m : Int} (hn : I64 n) (hm : I64 m) (hK : ∀ H', K (.bool true) H') : VCall tbl lim 7 [bv, .int .i64 n, .int .i64 m] H K := by
  obtain ⟨hx, hy⟩ := hb
  rename_i rv wv
  have hb : BunV H r w (.agg [rv, wv]) := .mk hx hy
  refine VCall_fn tbl_at7 rfl ?_
  simp [vf7, hx.stor, hy.stor, hx.one, hy.one]
  refine law_Long hb ?_
  simp
  refine cond_bool (fun hl => ?_) fun hl => ?_
  · simp; refine law_known hlim fun H1 _ => ?_; simp; exact hK H1
  simp [hx.stor, hy.stor]
  refine hair_Draw hb hlim hn fun H1 _ _ x1 o1 o1' => ?_
  have l1 := x1.len
  rcases drawP_cases r w n with ⟨e, he, hE⟩ | ⟨e0, n0, n1, hE⟩
  · rw [hE] at o1 o1' ⊢
    obtain ⟨a1, a2⟩ := o1
    obtain ⟨b1, b2⟩ := o1'
    have z1 := a1.sl.len
    have z2 := a2.sl.len
    have z3 := b1.sl.len
    have z4 := b2.sl.len
    simp only [errQ, List.length_nil] at z1 z2 z3 z4 he ⊢
    simp [a1.sl.stor, a2.sl.stor, a1.sl.one, a2.sl.one, b1.sl.stor, b2.sl.stor, b1.sl.one, b2.sl.one, he, z1, z2, z3, z4, wrap_i64]
    refine law_known (by omega) fun H2 _ => ?_
    simp
    exact hK H2
  rw [hE] at o1 o1' ⊢
  have of := op_bd (r := r) (w := w)
  have of0 : ∀ a b, 0 ≤ op r w a b := fun a b => (of a b).1
  have hc := cntF_op2 (r := r) (w := w)
  have ofx : ∀ x y, x < 2 → 1 ≤ y → y ≤ 24 → op (sideF (op r w) 0) (sideF (op r w) 1) x y = op r w x y := fun x y h1 h2 h3 => op_side (fun a b _ _ _ => of a b) h1 h2 h3
  have efx : errOf (sideF (op r w) 0) (sideF (op r w) 1) = 0 := err_side fun a b _ _ _ => of a b
  have hsame := same_of efx e0 ofx
  have habv : ∀ k, aboveS (opened r w) k = abv (op r w) (kA k) := fun k => by rw [opened_mk, aboveS_mk]
  generalize hF : op r w = f at *
  have dD : ∀ a b, 0 ≤ drw f n a b ∧ drw f n a b ≤ f a b := drw_bd of
  have dB : ∀ a b, a < 2 → 1 ≤ b → b ≤ 24 → 0 ≤ drw f n a b ∧ drw f n a b ≤ 1000000 := fun a b _ _ _ => ⟨(dD a b).1, by have := (dD a b).2; have := (of a b).2; omega⟩
  have sB' := subF_bd (f := f) (g := drw f n) dD of
  have sB : ∀ a b, a < 2 → 1 ≤ b → b ≤ 24 → 0 ≤ subF f (drw f n) a b ∧ subF f (drw f n) a b ≤ 1000000 := fun a b _ _ _ => sB' a b
  have hmix := mix_parts (h := f) dB sB (fun a b => (of a b).2) fun a b _ _ _ => by simp only [subF]; omega
  have eD : errOf (sideF (drw f n) 0) (sideF (drw f n) 1) = 0 := err_side dB
  have eS : errOf (sideF (subF f (drw f n)) 0) (sideF (subF f (drw f n)) 1) = 0 := err_side sB
  have oD : ∀ x y, x < 2 → 1 ≤ y → y ≤ 24 → op (sideF (drw f n) 0) (sideF (drw f n) 1) x y = drw f n x y := fun x y h1 h2 h3 => op_side dB h1 h2 h3
  have oS : ∀ x y, x < 2 → 1 ≤ y → y ≤ 24 → op (sideF (subF f (drw f n)) 0) (sideF (subF f (drw f n)) 1) x y = subF f (drw f n) x y := fun x y h1 h2 h3 => op_side sB h1 h2 h3
  have aD : ∀ k, aboveS (opened (sideF (drw f n) 0) (sideF (drw f n) 1)) k = min n (abv f (kA k)) := fun k => by
    rw [opened_mk, aboveS_mk, abv_congr oD kA_le, abv_drw of0 n0 _ kA_le]
  simp only [part2] at o1 o1' ⊢
  obtain ⟨a1, a2⟩ := o1
  obtain ⟨b1, b2⟩ := o1'
  simp [a1.sl.stor, a2.sl.stor, a1.sl.one, a2.sl.one, b1.sl.stor, b2.sl.stor, b1.sl.one, b2.sl.one]
  refine hair_Mix (BunV.mk a1.sl a2.sl) (BunV.mk b1.sl b2.sl) (by omega) fun H2 _ x2 o2 => ?_
  have l2 := x2.len
  rw [hmix] at o2 ⊢
  obtain ⟨c1, c2⟩ := o2
  simp [c1.sl.stor, c2.sl.stor, c1.sl.one, c2.sl.one, hx.stor, hy.stor]
  refine hair_Same (BunV.mk c1.sl c2.sl) (hb.mono (x1.trans x2)) (by omega) fun H3 x3 => ?_
  have l3 := x3.len
  simp [hsame.1, hsame.2]
  rename_i xr xw ur uw mr mw
  refine wLoop_up 26 (fun i fr L H' => (fr 1 = .int .i64 n ∧ fr 2 = .int .i64 m ∧ fr 3 = .lp 0 0 ∧ fr 7 = .lp 1 0 ∧ fr 8 = .lp 2 0 ∧ fr 10 = .lp 3 0 ∧ fr 14 = .int .i64 i) ∧ L = [[rv, wv], [xr, xw], [ur, uw], [mr, mw]] ∧ HX H3 H') ⟨by simp, by simp, .refl⟩ ?_
  rintro i hi fr L H4 ⟨⟨f1, f2, f3, f7, f8, f10, f14⟩, rfl, x4⟩
  have l4 := x4.len
  simp [f1, f2, f3, f7, f8, f10, f14]
  refine cond_dec (fun ht => ?_) fun hg => ?_
  · simp [f1, f2, f3, f7, f8, f10, f14, a1.sl.stor, a2.sl.stor]
    refine hair_Above (BunV.mk (a1.sl.mono ((x2.trans x3).trans x4)) (a2.sl.mono ((x2.trans x3).trans x4))) (by omega) ⟨by omega, by omega⟩ fun H5 x5 => ?_
    have l5 := x5.len
    rw [aD, eD]
    simp [f1, f2, f3, f7, f8, f10, f14, hx.stor, hy.stor]
    refine hair_Above (hb.mono ((((x1.trans x2).trans x3).trans x4).trans x5)) (by omega) ⟨by omega, by omega⟩ fun H6 x6 => ?_
    rw [habv, e0]
    simp (disch := omega) [f1, f2, f3, f7, f8, f10, f14, wrap_i64]
    exact ⟨by omega, (x4.trans x5).trans x6⟩
  · simp [f1, f2, f3, f7, f8, f10, f14, b1.sl.stor, b2.sl.stor]
    refine hair_Draw (BunV.mk (b1.sl.mono ((x2.trans x3).trans x4)) (b2.sl.mono ((x2.trans x3).trans x4))) (by omega) hm fun H5 _ _ x5 o5 o5' => ?_
    have l5 := x5.len
    rcases drawP_cases (sideF (subF f (drw f n)) 0) (sideF (subF f (drw f n)) 1) m with ⟨e, he, hE2⟩ | ⟨_, m0, m1, hE2⟩
    · rw [hE2] at o5 o5' ⊢
      obtain ⟨d1, d2⟩ := o5
      obtain ⟨g1, g2⟩ := o5'
      simp only [errQ] at he ⊢
      simp [f1, f2, f3, f7, f8, f10, d1.sl.stor, d2.sl.stor, d1.sl.one, d2.sl.one, g1.sl.stor, g2.sl.stor, g1.sl.one, g2.sl.one, he]
      refine law_known (by omega) fun H6 _ => ?_
      simp
      exact hK H6
    rw [hE2] at o5 o5' ⊢
    have hcS : cntF (op (sideF (subF f (drw f n)) 0) (sideF (subF f (drw f n)) 1)) = cntF f - n := by
      simp only [cntF] at n1 ⊢
      rw [abv_congr oS (Nat.le_refl _), abv_sub, abv_drw of0 n0 24 (by omega)]; omega
    rw [hcS] at m1
    have hE3 : drawP r w (n + m) = part2 (drw f (n + m)) (subF f (drw f (n + m))) := by
      unfold drawP
      rw [if_pos e0, if_neg (by omega), hF, if_neg (by omega)]
    have hd2 : ∀ a b, a < 2 → 1 ≤ b → b ≤ 24 → drw (op (sideF (subF f (drw f n)) 0) (sideF (subF f (drw f n)) 1)) m a b = drw f (n + m) a b - drw f n a b := by
      intro a b h1 h2 h3
      have := drw_two of0 n0 m0 h1 h2 h3
      rw [drw_congr oS h1 h2 h3]; omega
    have hv : ∀ a, a < 2 → sideF (subF (op (sideF (subF f (drw f n)) 0) (sideF (subF f (drw f n)) 1)) (drw (op (sideF (subF f (drw f n)) 0) (sideF (subF f (drw f n)) 1)) m)) a = sideF (subF f (drw f (n + m))) a := by
      intro a ha
      refine sideF_congr fun b h2 h3 => ?_
      have h4 := hd2 a b ha h2 h3
      have h5 := oS a b ha h2 h3
      simp only [subF] at h4 h5 ⊢
      omega
    have dN := drw_bd (n := n + m) of
    have dS := drw_bd (n := m) (f := op (sideF (subF f (drw f n)) 0) (sideF (subF f (drw f n)) 1)) op_bd
    have oSb := op_bd (r := sideF (subF f (drw f n)) 0) (w := sideF (subF f (drw f n)) 1)
    have hmix2 := mix_parts (f := drw f n) (g := drw (op (sideF (subF f (drw f n)) 0) (sideF (subF f (drw f n)) 1)) m) (h := drw f (n + m)) dB
      (fun a b _ _ _ => ⟨(dS a b).1, by have := (dS a b).2; have := (oSb a b).2; omega⟩) (fun a b => by have := (dN a b).2; have := (of a b).2; omega) fun a b h1 h2 h3 => by have := hd2 a b h1 h2 h3; omega
    simp only [part2, hv 0 (by omega), hv 1 (by omega)] at o5 o5' ⊢
    obtain ⟨d1, d2⟩ := o5
    obtain ⟨g1, g2⟩ := o5'
    simp (disch := omega) [f1, f2, f3, f7, f8, f10, d1.sl.stor, d2.sl.stor, d1.sl.one, d2.sl.one, g1.sl.stor, g2.sl.stor, g1.sl.one, g2.sl.one, hx.stor, hy.stor, wrap_i64]
    refine hair_Draw (hb.mono ((((x1.trans x2).trans x3).trans x4).trans x5)) (by omega) ⟨by omega, by omega⟩ fun H6 _ _ x6 o6 o6' => ?_
    have l6 := x6.len
    rw [hE3] at o6 o6' ⊢
    simp only [part2] at o6 o6' ⊢
    obtain ⟨p1, p2⟩ := o6
    obtain ⟨q1, q2⟩ := o6'
    simp [f1, f2, f3, f7, f8, f10, p1.sl.stor, p2.sl.stor, p1.sl.one, p2.sl.one, q1.sl.stor, q2.sl.stor, q1.sl.one, q2.sl.one, a1.sl.stor, a2.sl.stor, d1.sl.stor, d2.sl.stor]
    have xx : HX H1 H6 := (((x2.trans x3).trans x4).trans x5).trans x6
    refine hair_Mix (BunV.mk (a1.sl.mono xx) (a2.sl.mono xx)) (BunV.mk (d1.sl.mono x6) (d2.sl.mono x6)) (by omega) fun H7 _ x7 o7 => ?_
    have l7 := x7.len
    rw [hmix2] at o7 ⊢
    obtain ⟨s1, s2⟩ := o7
    simp (disch := omega) [f1, f2, f3, f7, f8, f10, s1.sl.stor, s2.sl.stor, s1.sl.one, s2.sl.one, hx.stor, hy.stor, wrap_i64]
    refine hair_Draw (hb.mono ((x1.trans xx).trans x7)) (by omega) ⟨by omega, by omega⟩ fun H8 _ _ x8 o8 o8' => ?_
    have l8 := x8.len
    rw [hE3] at o8 o8' ⊢
    simp only [part2] at o8 o8' ⊢
    obtain ⟨t1, t2⟩ := o8
    obtain ⟨u1, u2⟩ := o8'
    have n24 := fun (g : HF) (a : Nat) => listN_len24 (f := g) (w := a)
    simp [f1, f2, f3, f7, f8, f10, t1.sl.stor, t2.sl.stor, t1.sl.one, t2.sl.one, u1.sl.stor, u2.sl.stor, u1.sl.one, u2.sl.one, g1.sl.stor, g2.sl.stor, q1.sl.stor, q2.sl.stor]
    have e1 := n24 (subF f (drw f (n + m))) 0
    have e2 := n24 (subF f (drw f (n + m))) 1
    have e3 := n24 (drw f (n + m)) 0
    have e4 := n24 (drw f (n + m)) 1
    refine ref01_Equal (BunV.mk (g1.sl.mono ((x6.trans x7).trans x8)) (g2.sl.mono ((x6.trans x7).trans x8))) (BunV.mk (q1.sl.mono (x7.trans x8)) (q2.sl.mono (x7.trans x8))) (by omega) (by omega) ?_
    simp [t1.sl.stor, t2.sl.stor, s1.sl.stor, s2.sl.stor]
    refine ref01_Equal (BunV.mk t1.sl t2.sl) (BunV.mk (s1.sl.mono x8) (s2.sl.mono x8)) (by omega) (by omega) ?_
    simp
    refine law_known (by omega) fun H9 _ => ?_
    simp
    exact hK H9
end
end Go.Proofs.Ytgmbjfdhbfhmgaa.Vm
