/- Package knot over the machine: Spread; KnotSpreads. -/
import Derived.Test.YtakbcmofgfjeiaaKsA
namespace Go.Proofs.Ytakbcmofgfjeiaa.Vm
open Go
set_option maxRecDepth 100000
set_option linter.unusedSimpArgs false
set_option linter.unusedVariables false
set_option maxHeartbeats 1000000
attribute [-simp] List.getD_eq_getElem?_getD
theorem vwantK {b : Bool} : vwant b dv = false := Eq.trans rfl rfl
attribute [local simp] vwantK
section
variable {lim : Nat} {H : Hp} {K : V → Hp → Prop} {v : V} {l : List Int} {n : Int}
theorem knot_Spread (hv : SlV H v l) (hlim : lim ≤ H.length) (hK : ∀ H' w, HX H H' → OwnV H.length H' w (sprL l n) → K (.tup [w, .int .i64 (quoE l n)]) H') : VCall tbl lim 38 [v, .int .i64 n] H K := by
  refine VCall_fn tbl_at38 rfl ?_
  simp [vf38, hv.stor]
  refine knot_sumOfWeights hv ?_
  have hno : (sumW l = 0 ∨ n < 0 ∨ 600 < n) → K (.tup [.snil, .int .i64 1]) H := fun h => by
    have e1 : quoE l n = 1 := if_pos h
    have e2 : sprL l n = [] := by unfold sprL; rw [e1]; rfl
    have := hK H .snil HX.refl (by rw [e2]; exact .nil)
    rwa [e1] at this
  by_cases h0 : sumW l = 0
  · simp [h0]
    exact hno (Or.inl h0)
  by_cases h1 : n < 0
  · simp [h0, h1]
    exact hno (Or.inr (Or.inl h1))
  by_cases h2 : 600 < n
  · simp [h0, h1, h2]
    exact hno (Or.inr (Or.inr h2))
  have e1 : quoE l n = 0 := if_neg (by omega)
  obtain ⟨w1, w2, w3, w4, w5⟩ := sumW_pos h0
  have wb := fun i => wBad_bd w2 (i := i)
  have eL : sprL l n = rowS l (sumW l) n.toNat := if_pos e1
  rw [e1, eL] at hK
  generalize hW : sumW l = W at *
  simp (disch := omega) [h0, h1, h2, hv.len]
  have hx0 : HX H (H ++ [.row (ints (zs l.length)) true]) := ⟨_, rfl⟩
  have o7 : OwnV H.length (H ++ [.row (ints (zs l.length)) true]) (.sl H.length 0 (zs l.length).length 1) (zs l.length) := .row (Nat.le_refl _) (by simp)
  have hzl : (zs l.length).length = l.length := by simp [zs]
  rw [hzl] at o7
  have h7 : ∀ b o z y, V.sl H.length 0 l.length 1 = .sl b o z y → b = H.length := fun b o z y e => by cases e; rfl
  generalize V.sl H.length 0 l.length 1 = v7 at h7 o7 ⊢
  generalize H ++ [Blk.row (ints (zs l.length)) true] = H0 at hx0 o7 ⊢
  refine wLoop_up n.toNat (fun k fr L H' => ∃ u cnt, (fr 0 = v ∧ fr 1 = .int .i64 n ∧ fr 6 = .int .i64 W ∧ fr 7 = v7 ∧ fr 8 = u ∧ fr 9 = .int .i64 ((k : Int) + 1)) ∧ L = [] ∧ HX H H' ∧ OwnV H.length H' v7 cnt ∧ cnt.length = l.length ∧ (∀ c, c < l.length → cnt.getD c 0 = cN (rowS l W k) c k) ∧ OwnV H.length H' u (rowS l W k) ∧ Apart v7 u) ⟨.snil, _, by simp, rfl, hx0, o7, hzl, fun c hc => by rw [zs_getD]; rfl, .nil, fun b o z y b' o' z' y' e h => by cases h⟩ ?_
  rintro k hk fr L H1 ⟨u, cnt, ⟨f0, f1, f6, f7, f8, f9⟩, rfl, hx, p7, hcl, hcn, p8, hap⟩
  have hxl := hx.len
  simp [f0, f1, f6, f7, f8, f9]
  refine cond_dec (fun ht => ?_) fun hfl => ?_
  case refine_2 =>
    have : k = n.toNat := by omega
    subst this
    simp [f8, p8.sl.stor]
    exact hK _ _ hx p8
  have ht : k < n.toNat := by omega
  have hv1 := hv.mono hx
  simp [f0, f1, f6, f7, f8, f9, hv1.len]
  have hrow : rowS l W (k + 1) = rowS l W k ++ [bsS l W (fun c => cN (rowS l W k) c k) ((k : Int) + 1) l.length] := rfl
  obtain ⟨ri, rs⟩ := row_in (by omega) w3 (fun c => (wb c).1) (k := k + 1)
  have rlast := ri k (by omega)
  rw [rowS_get (by omega)] at rlast
  have hbd : ∀ c, 0 ≤ (fun c => cN (rowS l W k) c k) c ∧ (fun c => cN (rowS l W k) c k) c ≤ k := fun c => cN_bd (cs := rowS l W k) (c := c) k
  have hnext : ∀ c, cN (rowS l W (k + 1)) c (k + 1) = (fun c => cN (rowS l W k) c k) c + if c = (bsS l W (fun c => cN (rowS l W k) c k) ((k : Int) + 1) l.length).toNat then 1 else 0 := fun c => by
    simp only [cN]
    rw [cN_row (by omega), rowS_get (by omega)]
    congr 1
    by_cases e : bsS l W (fun c => cN (rowS l W k) c k) ((k : Int) + 1) l.length = (c : Int)
    · rw [if_pos e, if_pos (by omega)]
    · rw [if_neg e, if_neg (by omega)]
  have hcn : ∀ c, c < l.length → cnt.getD c 0 = (fun c => cN (rowS l W k) c k) c := hcn
  generalize (fun c => cN (rowS l W k) c k) = cf at *
  refine wLoop_up l.length (fun c fr L H' => (fr 0 = v ∧ fr 1 = .int .i64 n ∧ fr 6 = .int .i64 W ∧ fr 7 = v7 ∧ fr 8 = u ∧ fr 9 = .int .i64 ((k : Int) + 1) ∧ fr 10 = .int .i64 (bsS l W cf ((k : Int) + 1) c) ∧ fr 34 = v ∧ fr 35 = .int .i64 l.length ∧ fr 36 = .int .i64 c) ∧ L = [] ∧ H' = H1) ⟨by simp [f0, f1, f6, f7, f8, f9, hv1.len, bsS], rfl, rfl⟩ ?_
  clear f0 f1 f6 f7 f8 f9
  rintro c hc fr L H' ⟨⟨f0, f1, f6, f7, f8, f9, f10, f34, f35, f36⟩, rfl, e0⟩
  have e0 := e0.symm
  subst e0
  simp [f0, f1, f6, f7, f8, f9, f10, f34, f35, f36]
  refine cond_dec (fun ht2 => ?_) fun hf2 => ?_
  · have ht2 : c < l.length := by omega
    have hlt := @bsS_lt l W ((k : Int) + 1) cf c
    have hs1 : mayS l W cf ((k : Int) + 1) c ∧ (bsS l W cf ((k : Int) + 1) c < 0 ∨ befS l cf c (bsS l W cf ((k : Int) + 1) c).toNat) → bsS l W cf ((k : Int) + 1) (c + 1) = (c : Int) := fun h => if_pos h
    have hs2 : ¬ (mayS l W cf ((k : Int) + 1) c ∧ (bsS l W cf ((k : Int) + 1) c < 0 ∨ befS l cf c (bsS l W cf ((k : Int) + 1) c).toNat)) → bsS l W cf ((k : Int) + 1) (c + 1) = bsS l W cf ((k : Int) + 1) c := fun h => if_neg h
    have a7 := p7.sl.addr (i := (c : Int)) (by omega)
    have av := hv1.addr (i := (c : Int)) (by omega)
    simp only [Int.toNat_natCast] at a7 av
    have g7 := fun L => p7.sl.load (L := L) (i := c) (by omega)
    have gv := fun L => hv1.load (L := L) (i := c) ht2
    rw [hcn c ht2] at g7
    have bc := hbd c
    have wc := wb c
    unfold mayS befS at hs1 hs2
    generalize hb : bsS l W cf ((k : Int) + 1) c = b at *
    generalize hwc : l.getD c 0 = w at *
    generalize hcc : cf c = cc at *
    have q1 := mul_bd (a := cc) (b := W) (A := 600) (B := 6000) (by omega) (by omega)
    have q2 := mul_bd (a := (k : Int) + 1) (b := w) (A := 600) (B := 1000) (by omega) (by omega)
    generalize hx1 : cc * W = x1 at *
    generalize hx2 : ((k : Int) + 1) * w = x2 at *
    by_cases hd : x1 < x2
    · by_cases hb0 : b < 0
      · have hsucc := hs1 ⟨hd, Or.inl hb0⟩
        simp (disch := omega) [f0, f1, f6, f7, f8, f9, f10, f34, f35, f36, av, gv, a7, g7, hx1, hx2, wrap_i64, hd, hb0, hsucc]
        omega
      · obtain ⟨j, rfl⟩ : ∃ j : Nat, b = j := ⟨b.toNat, by omega⟩
        have a7b := p7.sl.addr (i := (j : Int)) (by omega)
        have avb := hv1.addr (i := (j : Int)) (by omega)
        simp only [Int.toNat_natCast] at a7b avb hs1 hs2
        have g7b := fun L => p7.sl.load (L := L) (i := j) (by omega)
        have gvb := fun L => hv1.load (L := L) (i := j) (by omega)
        rw [hcn j (by omega)] at g7b
        have bj := hbd j
        have wj := wb j
        generalize cf j = cj at *
        generalize l.getD j 0 = wj' at *
        have q3 := mul_bd (a := cc + 1) (b := wj') (A := 601) (B := 1000) (by omega) (by omega)
        have q4 := mul_bd (a := cj + 1) (b := w) (A := 601) (B := 1000) (by omega) (by omega)
        generalize hx3 : (cc + 1) * wj' = x3 at *
        generalize hx4 : (cj + 1) * w = x4 at *
        by_cases hg : x3 < x4
        · have hsucc := hs1 ⟨hd, Or.inr hg⟩
          simp (disch := omega) [f0, f1, f6, f7, f8, f9, f10, f34, f35, f36, av, gv, a7, g7, avb, gvb, a7b, g7b, hx1, hx2, hx3, hx4, wrap_i64, hd, hb0, hg, hsucc]
          omega
        · have hsucc := hs2 (fun h => h.2.elim (fun h => hb0 h) fun h => hg h)
          simp (disch := omega) [f0, f1, f6, f7, f8, f9, f10, f34, f35, f36, av, gv, a7, g7, avb, gvb, a7b, g7b, hx1, hx2, hx3, hx4, wrap_i64, hd, hb0, hg, hsucc]
          omega
    · have hsucc := hs2 (fun h => hd h.1)
      simp (disch := omega) [f0, f1, f6, f7, f8, f9, f10, f34, f35, f36, av, gv, a7, g7, hx1, hx2, wrap_i64, hd, hsucc]
      omega
  have : c = l.length := by omega
  subst this
  rw [hrow] at hnext
  generalize hB : bsS l W cf ((k : Int) + 1) l.length = b at *
  obtain ⟨j, rfl⟩ : ∃ j : Nat, b = j := ⟨b.toNat, by omega⟩
  simp only [Int.toNat_natCast] at hnext
  have hj : j < l.length := by omega
  have a7 := p7.sl.addr (i := (j : Int)) (by omega)
  simp only [Int.toNat_natCast] at a7
  have g7 := fun L => p7.sl.load (L := L) (i := j) (by omega)
  have bj := hbd j
  have hcj := hcn j hj
  rw [hcj] at g7
  have st := fun L => p7.store (lim := lim) (i := j) (x := cf j + 1) (L := L) ⟨hlim, by omega⟩
  have n7 := p7.put (l' := cnt.set j (cf j + 1)) (by simp)
  have xx := setH_X (cs := ints (cnt.set j (cf j + 1))) hx p7 (Nat.le_refl _)
  have k8 : OwnV H.length (setH H1 v7 (ints (cnt.set j (cf j + 1)))) u (rowS l W k) := p8.keepQ fun b o m z e => setH_othB p7 fun o' z' y' e' => hap _ _ _ _ _ _ _ _ e' e rfl
  generalize hH2 : setH H1 v7 (ints (cnt.set j (cf j + 1))) = H2 at *
  have xxl := xx.len
  have b8 := k8.below
  have a8 := k8.append (lim := lim) (x := (j : Int)) ⟨hlim, by rw [rowS_len]; omega⟩
  have q8 := k8.ap xxl (x := (j : Int)) (new := [.int .i64 (j : Int)])
  have xx8 := k8.apX xx (Nat.le_refl _) (new := [.int .i64 (j : Int)]) (all := ints (rowS l W k ++ [(j : Int)]))
  have q7 : OwnV H.length (apH H2 u [.int .i64 (j : Int)] (ints (rowS l W k ++ [(j : Int)]))) v7 (cnt.set j (cf j + 1)) :=
    n7.keepQ fun b o m z e => by
      have hb7 := n7.below b o m z e
      refine apH_oth k8 hb7 fun o' z' y' e' => ?_
      exact hap _ _ _ _ _ _ _ _ e e' rfl
  have t7 := p7.ptr1 (i := j) (by omega)
  have u7 := p7.lp1 (i := j) (by omega)
  simp (disch := omega) [f0, f1, f6, f7, f8, f9, f10, f34, f35, f36, a7, g7, t7, u7, st, hH2, wrap_i64, vbslice_some, splice, a8, hrow, -vstore]
  have hB7 : ∀ b o m z, v7 = .sl b o m z → b < H2.length := n7.below
  refine ⟨by omega, xx8, _, q7, by simp [hcl], fun c hc => ?_, q8, fun b o z y b' o' z' y' e e' => ?_⟩
  · rw [setI_get (by omega), hnext c]
    by_cases e : c = j
    · subst e; rw [if_pos rfl, if_pos rfl]
    · rw [if_neg e, if_neg e, hcn c hc]; omega
  · have := hB7 _ _ _ _ e
    cases e'; omega
theorem ref_SpreadError (hv : SlV H v l) (hlim : lim ≤ H.length) (hK : ∀ H', HX H H' → K (.int .i64 (quoE l n)) H') : VCall tbl lim 39 [v, .int .i64 n] H K := by
  refine VCall_fn tbl_at39 rfl ?_
  simp [vf39, hv.stor]
  refine ref_Quotas hv hlim fun H1 w1 x1 o1 => ?_
  simp [o1.sl.stor, o1.sl.one]
  exact hK _ x1
theorem law_KnotSpreads (hv : SlV H v l) (hlim : lim ≤ H.length) (hn : I64 n) (hK : ∀ H', K (.bool true) H') : VCall tbl lim 12 [v, .int .i64 n] H K := by
  refine VCall_fn tbl_at12 rfl ?_
  by_cases h100 : 100 < l.length
  · simp [vf12, hv.len, show (100 : Int) < l.length by omega]
    refine law_known hlim fun H' _ => ?_
    simp
    exact hK _
  simp [vf12, hv.len, hv.stor, show ¬ (100 : Int) < l.length by omega]
  refine knot_Spread hv hlim fun H1 w1 x1 o1 => ?_
  replace x1 : HX H H1 := x1
  have l1 := x1.len
  have hv1 := hv.mono x1
  simp [hv.stor, o1.sl.stor, o1.sl.one]
  refine ref_SpreadError hv1 (by omega) fun H2 x2 => ?_
  replace x2 : HX H1 H2 := x2
  have l2 := x2.len
  have o1 := o1.mono x2
  have hv2 := hv1.mono x2
  simp
  by_cases h : quoE l n = 0
  · obtain ⟨s1, s2⟩ := sprL_ok h
    simp [h, hv.stor, o1.sl.stor]
    refine ref_IsSpread hv2 o1.sl (by omega) fun H3 x3 => ?_
    replace x3 : HX H2 H3 := x3
    have l3 := x3.len
    simp [s1, o1.sl.len, s2]
    refine law_known (by omega) fun H4 _ => ?_
    simp
    exact hK _
  · have e2 : sprL l n = [] := by unfold sprL; rw [if_neg h]
    have hlen := o1.sl.len
    rw [e2] at hlen
    simp [h, hlen]
    refine law_known (by omega) fun H3 _ => ?_
    simp
    exact hK _
end
end Go.Proofs.Ytakbcmofgfjeiaa.Vm
