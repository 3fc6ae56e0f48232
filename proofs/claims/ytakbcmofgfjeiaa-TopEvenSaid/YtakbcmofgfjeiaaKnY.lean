/- Package knot over the machine: the document's quotas; KnotQuotas. -/
import Derived.Test.YtakbcmofgfjeiaaKnX
import Derived.Test.YtakbcmofgfjeiaaKnH
namespace Go.Proofs.Ytakbcmofgfjeiaa.Vm
open Go
set_option maxRecDepth 100000
set_option linter.unusedSimpArgs false
set_option linter.unusedVariables false
attribute [-simp] List.getD_eq_getElem?_getD
theorem apH_oth {n : Nat} {H : Hp} {v : V} {l : List Int} (h : OwnV n H v l) {new all : List V} {b' : Nat} (hb : b' < H.length) (hne : ∀ o z y, v ≠ .sl b' o z y) : (apH H v new all)[b']? = H[b']? := by
  cases h with
  | nil =>
    show (H ++ [Blk.row new true] ++ [Blk.row all true])[b']? = _
    rw [List.getElem?_append_left (by simp; omega), List.getElem?_append_left hb]
  | row h1 h3 =>
    rename_i b
    show ((H ++ [Blk.row new true]).set b .dead ++ [Blk.row all true])[b']? = _
    rw [List.getElem?_append_left (by simp; omega), List.getElem?_set_ne (fun e => hne _ _ _ (by rw [e])), List.getElem?_append_left hb]
theorem apH_len {n : Nat} {H : Hp} {v : V} {l : List Int} (h : OwnV n H v l) {new all : List V} : (apH H v new all).length = H.length + 2 := by
  cases h <;> simp [apH]
theorem qL_snoc {n W : Int} {l : List Int} {i : Nat} (h : i < l.length) : qL n W (l.take (i + 1)) = qL n W (l.take i) ++ [(n * l.getD i 0).tdiv W] := by
  rw [take_snoc h]; simp [qL]
theorem rL_snoc {n W : Int} {l : List Int} {i : Nat} (h : i < l.length) : rL n W (l.take (i + 1)) = rL n W (l.take i) ++ [(n * l.getD i 0).tmod W] := by
  rw [take_snoc h]; simp [rL]
theorem qL_tl {n W : Int} {l : List Int} {i : Nat} (h : i ≤ l.length) : (qL n W (l.take i)).length = i := by simp [qL]; omega
theorem rL_tl {n W : Int} {l : List Int} {i : Nat} (h : i ≤ l.length) : (rL n W (l.take i)).length = i := by simp [rL]; omega
section
variable {lim : Nat} {H : Hp} {K : V → Hp → Prop} {v : V} {l : List Int} {n : Int}
theorem ref_Quotas (hv : SlV H v l) (hlim : lim ≤ H.length) (hK : ∀ H' w, HX H H' → OwnV H.length H' w (quoL l n) → K (.tup [w, .int .i64 (quoE l n)]) H') : VCall tbl lim 37 [v, .int .i64 n] H K := by
  refine VCall_fn tbl_at37 rfl ?_
  simp [vf37, hv.stor]
  refine ref_ValidWeights hv ?_
  have hno : (sumW l = 0 ∨ n < 0 ∨ 600 < n) → K (.tup [.snil, .int .i64 1]) H := fun h => by
    have e1 : quoE l n = 1 := if_pos h
    have e2 : quoL l n = [] := by unfold quoL; rw [e1]; rfl
    have := hK H .snil HX.refl (by rw [e2]; exact .nil)
    rwa [e1] at this
  by_cases h0 : sumW l = 0
  · simp [h0]
    exact hno (Or.inl h0)
  by_cases h1 : n < 0
  · simp [h0, h1]
    exact hno (Or.inr (Or.inl h1))
  by_cases h2 : 600 < n
  · simp [h0, h1, h2]
    exact hno (Or.inr (Or.inr h2))
  have e1 : quoE l n = 0 := if_neg (by omega)
  obtain ⟨w1, w2, w3, w4, w5⟩ := sumW_pos h0
  have wb := fun i => wBad_bd w2 (i := i)
  have eL : quoL l n = (quoN (qL n (sumW l) l, rL n (sumW l) l) (n - (qL n (sumW l) l).sum).toNat).1 := if_pos e1
  rw [e1, eL] at hK
  have hmem : ∀ w ∈ l, 0 ≤ w ∧ w ≤ 1000 := fun w hw => by
    obtain ⟨i, hi, e⟩ := List.mem_iff_getElem.1 hw
    have := wb i
    rw [List.getD_eq_getElem?_getD, List.getElem?_eq_getElem hi] at this
    simp at this; omega
  have hs1 : (qL n (sumW l) l).sum ≤ n := q_le (by omega) (by omega) w3.symm fun w hw => (hmem w hw).1
  simp [h0, h1, h2, hv.stor]
  refine ref_sum hv (by omega) (fun w hw => by have := hmem w hw; omega) ?_
  rw [← w3]
  generalize hW : sumW l = W at *
  have hlen : (qL n W l).length = l.length := by simp [qL]
  have hlen2 : (rL n W l).length = l.length := by simp [rL]
  have hq : ∀ i, i < l.length → (0 ≤ n * l.getD i 0 ∧ n * l.getD i 0 ≤ 600 * 1000) ∧ (0 ≤ (n * l.getD i 0).tdiv W ∧ (n * l.getD i 0).tdiv W ≤ n * l.getD i 0) := fun i hi => by
    have hb := mul_bd (a := n) (b := l.getD i 0) (A := 600) (B := 1000) (by omega) (by have := wb i; omega)
    exact ⟨hb, tdiv_bd hb.1 (by omega)⟩
  simp
  refine wLoop_up l.length (fun i fr L H' => ∃ u7 u8, (fr 0 = v ∧ fr 1 = .int .i64 n ∧ fr 6 = .int .i64 W ∧ fr 7 = u7 ∧ fr 8 = u8 ∧ fr 9 = .int .i64 i) ∧ L = [] ∧ HX H H' ∧ OwnV H.length H' u7 (qL n W (l.take i)) ∧ OwnV H.length H' u8 (rL n W (l.take i)) ∧ Apart u7 u8) ⟨.snil, .snil, by simp, rfl, HX.refl, .nil, .nil, fun b o z y b' o' z' y' h => by cases h⟩ ?_
  rintro i hi fr L H1 ⟨u7, u8, ⟨f0, f1, f6, f7, f8, f9⟩, rfl, x1, o7, o8, hap⟩
  have l1 := x1.len
  have hv1 := hv.mono x1
  simp [f0, f1, f6, f7, f8, f9, hv1.len]
  refine cond_dec (fun ht => ?_) fun hfl => ?_
  · have ht : i < l.length := by omega
    obtain ⟨q1, q2⟩ := hq i ht
    have ql := qL_tl (n := n) (W := W) hi
    have rl := rL_tl (n := n) (W := W) hi
    have qs := qL_snoc (n := n) (W := W) ht
    have rs := rL_snoc (n := n) (W := W) ht
    have av : ∀ H', HX H H' → viaddrS 1 v (.int .i64 (i : Int)) = some (ept 1 v i) := fun H' hx' => by
      have := (hv.mono hx').addr (i := (i : Int)) (by omega)
      simpa using this
    have av := av _ x1
    generalize hmw : n * l.getD i 0 = mw at *
    have a7 := o7.append (lim := lim) (x := mw.tdiv W) ⟨hlim, by omega⟩
    have p7 := o7.ap l1 (x := mw.tdiv W) (new := [.int .i64 (mw.tdiv W)])
    have xx7 := o7.apX x1 (Nat.le_refl _) (new := [.int .i64 (mw.tdiv W)]) (all := ints (qL n W (l.take i) ++ [mw.tdiv W]))
    have ll7 := apH_len o7 (new := [.int .i64 (mw.tdiv W)]) (all := ints (qL n W (l.take i) ++ [mw.tdiv W]))
    have b8 := o8.below
    have k8 : OwnV H.length (apH H1 u7 [.int .i64 (mw.tdiv W)] (ints (qL n W (l.take i) ++ [mw.tdiv W]))) u8 (rL n W (l.take i)) := o8.keepQ fun b o m z e => apH_oth o7 (b8 b o m z e) fun o' z' y' e' => hap _ _ _ _ _ _ _ _ e' e rfl
    have hv2 := hv.mono xx7
    generalize hH2 : apH H1 u7 [.int .i64 (mw.tdiv W)] (ints (qL n W (l.take i) ++ [mw.tdiv W])) = H2 at *
    have hl2 : H.length ≤ H2.length := by omega
    have a8 := k8.append (lim := lim) (x := mw.tmod W) ⟨hlim, by omega⟩
    have p8 := k8.ap hl2 (x := mw.tmod W) (new := [.int .i64 (mw.tmod W)])
    have xx8 := k8.apX xx7 (Nat.le_refl _) (new := [.int .i64 (mw.tmod W)]) (all := ints (rL n W (l.take i) ++ [mw.tmod W]))
    have k7 : OwnV H.length (apH H2 u8 [.int .i64 (mw.tmod W)] (ints (rL n W (l.take i) ++ [mw.tmod W]))) (.sl (H1.length + 1) 0 ((qL n W (l.take i)).length + 1) 1) (qL n W (l.take i) ++ [mw.tdiv W]) :=
      p7.keepQ fun b o m z e => by
        cases e
        refine apH_oth k8 (by omega) fun o' z' y' e' => ?_
        have := b8 _ _ _ _ e'
        omega
    have gv := fun L => hv1.load (L := L) (i := i) ht
    have gv2 := fun L => hv2.load (L := L) (i := i) ht
    simp (disch := omega) [f0, f1, f6, f7, f8, f9, av, gv, gv2, hmw, wrap_i64, vbslice_some, splice, a7, a8]
    refine ⟨ht, _, _, ⟨rfl, rfl⟩, xx8, ?_, ?_, ?_⟩
    · rw [qs]; exact k7
    · rw [rs]; exact p8
    · intro b o z y b' o' z' y' e1 e2
      cases e1; cases e2; omega
  have : i = l.length := by omega
  subst this
  rw [List.take_length] at o7 o8
  have hpos : 0 < l.length := by
    cases l with
    | nil => simp at w3; omega
    | cons a l => simp
  have hqb : ∀ j, j < (qL n W l).length → 0 ≤ (qL n W l).getD j 0 ∧ (qL n W l).getD j 0 ≤ 600000 := fun j hj => by
    rw [qL_get (by omega)]
    have := hq j (by omega)
    omega
  have hs0 := take_bd hqb (i := (qL n W l).length) (Nat.le_refl _)
  rw [List.take_length] at hs0
  simp [f1, f7, o7.sl.stor]
  refine ref_sum o7.sl (by omega) (fun w hw => by
    obtain ⟨j, hj, e⟩ := List.mem_iff_getElem.1 hw
    have := hqb j hj
    rw [List.getD_eq_getElem?_getD, List.getElem?_eq_getElem hj] at this
    simp at this; omega) ?_
  simp (disch := omega) [f1, f7, f8, wrap_i64]
  generalize hS : (qL n W l, rL n W l) = S at *
  have hS1 : S.1 = qL n W l := by rw [← hS]
  have hS2 : S.2 = rL n W l := by rw [← hS]
  rw [← hS1] at o7 hqb
  rw [← hS2] at o8
  refine wLoop_up (n - (qL n W l).sum).toNat (fun k fr L H1 => (fr 7 = u7 ∧ fr 8 = u8 ∧ fr 10 = .int .i64 (n - (qL n W l).sum - k)) ∧ L = [] ∧ HX H H1 ∧ OwnV H.length H1 u7 (quoN S k).1 ∧ OwnV H.length H1 u8 (quoN S k).2) ⟨by simp [f7, f8], rfl, x1, o7, o8⟩ ?_
  clear f0 f1 f6 f7 f8 f9 x1 o7 o8 hv1 l1
  rintro k hk fr L H1 ⟨⟨f7, f8, f10⟩, rfl, hx, p7, p8⟩
  have hl := @quoN_len S k
  have hl1 : (quoN S k).1.length = l.length := by rw [hl.1, hS1]; exact hlen
  have hl2 : (quoN S k).2.length = l.length := by rw [hl.2, hS2]; exact hlen2
  simp [f7, f8, f10]
  by_cases ht : 0 < n - (qL n W l).sum - k
  · simp [f7, f8, f10, ht, show (k : Int) < n - (qL n W l).sum by omega]
    refine wLoop_up ((quoN S k).2.length - 1) (fun m fr L H' => (fr 7 = u7 ∧ fr 8 = u8 ∧ fr 10 = .int .i64 (n - (qL n W l).sum - k) ∧ fr 12 = .int .i64 ((m + 1 : Nat) : Int) ∧ fr 11 = .int .i64 (bstN (quoN S k).2 (m + 1) : Nat)) ∧ L = [] ∧ H' = H1) ⟨by simp [f7, f8, f10, bstN], rfl, rfl⟩ ?_
    clear f7 f8 f10
    rintro m hm fr L H' ⟨⟨f7, f8, f10, f12, f11⟩, rfl, e0⟩
    have e0 := e0.symm
    subst e0
    have hb := @bstN_lt (quoN S k).2 (m + 1)
    generalize hR : (quoN S k).2 = R at *
    simp [f7, f8, f10, f12, f11, p8.sl.len]
    by_cases hm2 : m + 1 < R.length
    · have a1 := p8.sl.addr (i := ((m + 1 : Nat) : Int)) (by omega)
      have a2 := p8.sl.addr (i := (bstN R (m + 1) : Int)) (by omega)
      simp only [Int.toNat_natCast] at a1 a2
      have ec : ((m + 1 : Nat) : Int) = (m : Int) + 1 := by omega
      rw [ec] at a1
      have g1 := fun L => p8.sl.load (L := L) (i := m + 1) hm2
      have g2 := fun L => p8.sl.load (L := L) (i := bstN R (m + 1)) (by omega)
      have hn : bstN R (m + 1 + 1) = if R.getD (bstN R (m + 1)) 0 < R.getD (m + 1) 0 then m + 1 else bstN R (m + 1) := rfl
      simp (disch := omega) [f7, f8, f10, f12, f11, show (m : Int) + 1 < (R.length : Int) by omega, a1, a2, g1, g2]
      refine cond_dec (fun hg => ?_) fun hg => ?_
      · rw [if_pos hg] at hn
        simp (disch := omega) [f7, f8, f10, f12, f11, wrap_i64, hn]
        omega
      · rw [if_neg hg] at hn
        simp (disch := omega) [f7, f8, f10, f12, f11, wrap_i64, hn]
        omega
    · have e3 : m + 1 = R.length := by omega
      rw [e3] at f11 f12 hb
      have hbl : bstN R R.length < l.length := by omega
      generalize hB : bstN R R.length = B at *
      have a7 := p7.sl.addr (i := (B : Int)) (by omega)
      have a8 := p8.sl.addr (i := (B : Int)) (by omega)
      simp only [Int.toNat_natCast] at a7 a8
      have g7 := fun L => p7.sl.load (L := L) (i := B) (by omega)
      have hbd := quoN_bd hqb (k := k) (i := B) (by rw [hS1]; omega)
      have st1 := fun L => p7.store (lim := lim) (i := B) (x := (quoN S k).1.getD B 0 + 1) (L := L) ⟨hlim, by omega⟩
      have n7 := p7.put (l' := (quoN S k).1.set B ((quoN S k).1.getD B 0 + 1)) (by simp)
      have p8' : OwnV H.length (setH H1 u7 (ints ((quoN S k).1.set B ((quoN S k).1.getD B 0 + 1)))) u8 R := p8.keepQ fun b o m z e => setH_othB p7 fun o' z' y' e' => hap _ _ _ _ _ _ _ _ e' e rfl
      have st2 := fun L => p8'.store (lim := lim) (i := B) (x := -1) (L := L) ⟨hlim, by omega⟩
      have n8 := p8'.put (l' := R.set B (-1)) (by simp)
      have n7' : OwnV H.length (setH (setH H1 u7 (ints ((quoN S k).1.set B ((quoN S k).1.getD B 0 + 1)))) u8 (ints (R.set B (-1)))) u7 ((quoN S k).1.set B ((quoN S k).1.getD B 0 + 1)) := n7.keepQ fun b o m z e => setH_othB p8' fun o' z' y' e' => hap _ _ _ _ _ _ _ _ e e' rfl
      have hn1 : (quoN S (k + 1)).1 = (quoN S k).1.set B ((quoN S k).1.getD B 0 + 1) := by simp only [quoN, quo1, hR, hB]
      have hn2 : (quoN S (k + 1)).2 = R.set B (-1) := by simp only [quoN, quo1, hR, hB]
      simp (disch := omega) [f7, f8, f10, f12, f11, show ¬ (m : Int) + 1 < (R.length : Int) by omega, a7, a8, g7, st1, st2, wrap_i64, hn1, hn2, -vstore]
      exact ⟨by omega, setH_X (setH_X hx p7 (Nat.le_refl _)) p8' (Nat.le_refl _), n7', n8⟩
  · have hkk : k = (n - (qL n W l).sum).toNat := by omega
    simp [f7, f8, f10, ht, show ¬ (k : Int) < n - (qL n W l).sum by omega, p7.sl.stor]
    rw [← hkk] at hK
    exact hK _ _ hx p7
theorem quo_sum (h : quoE l n = 0) : (quoL l n).sum = n ∧ (quoL l n).length ≤ 6 ∧ ∀ i, i < (quoL l n).length → 0 ≤ (quoL l n).getD i 0 ∧ (quoL l n).getD i 0 ≤ 600000 + 600 := by
  have h' : ¬ (sumW l = 0 ∨ n < 0 ∨ 600 < n) := fun h2 => by
    unfold quoE at h; rw [if_pos h2] at h; cases h
  obtain ⟨w1, w2, w3, w4, w5⟩ := sumW_pos (show sumW l ≠ 0 by omega)
  have wb := fun i => wBad_bd w2 (i := i)
  have hmem : ∀ w ∈ l, 0 ≤ w ∧ w ≤ 1000 := fun w hw => by
    obtain ⟨i, hi, e⟩ := List.mem_iff_getElem.1 hw
    have := wb i
    rw [List.getD_eq_getElem?_getD, List.getElem?_eq_getElem hi] at this
    simp at this; omega
  have hs1 : (qL n (sumW l) l).sum ≤ n := q_le (by omega) (by omega) w3.symm fun w hw => (hmem w hw).1
  have hpos : 0 < l.length := by
    cases l with
    | nil => simp at w3; omega
    | cons a l => simp
  have hlen : (qL n (sumW l) l).length = l.length := by simp [qL]
  have hlen2 : (rL n (sumW l) l).length = l.length := by simp [rL]
  have hqb : ∀ j, j < (qL n (sumW l) l).length → 0 ≤ (qL n (sumW l) l).getD j 0 ∧ (qL n (sumW l) l).getD j 0 ≤ 600000 := fun j hj => by
    rw [qL_get (by omega)]
    have hb := mul_bd (a := n) (b := l.getD j 0) (A := 600) (B := 1000) (by omega) (by have := wb j; omega)
    have := tdiv_bd hb.1 (show 0 < sumW l by omega)
    omega
  have hs0 := take_bd hqb (i := (qL n (sumW l) l).length) (Nat.le_refl _)
  rw [List.take_length] at hs0
  have eL : quoL l n = (quoN (qL n (sumW l) l, rL n (sumW l) l) (n - (qL n (sumW l) l).sum).toNat).1 := if_pos h
  rw [eL]
  refine ⟨?_, ?_, fun i hi => ?_⟩
  · rw [quoN_sum (s := (qL n (sumW l) l, rL n (sumW l) l)) (by show (qL n (sumW l) l).length = (rL n (sumW l) l).length; omega) (by show 0 < (rL n (sumW l) l).length; omega)]
    show (qL n (sumW l) l).sum + _ = n
    omega
  · rw [quoN_len.1]; show (qL n (sumW l) l).length ≤ 6; omega
  · rw [quoN_len.1] at hi
    have := quoN_bd (s := (qL n (sumW l) l, rL n (sumW l) l)) hqb (k := (n - (qL n (sumW l) l).sum).toNat) hi
    omega
theorem law_KnotQuotas (hv : SlV H v l) (hlim : lim ≤ H.length) (hn : I64 n) (hK : ∀ H', K (.bool true) H') : VCall tbl lim 11 [v, .int .i64 n] H K := by
  refine VCall_fn tbl_at11 rfl ?_
  by_cases h100 : 100 < l.length
  · simp [vf11, hv.len, show (100 : Int) < l.length by omega]
    refine law_known hlim fun H' _ => ?_
    simp
    exact hK _
  simp [vf11, hv.len, hv.stor, show ¬ (100 : Int) < l.length by omega]
  refine knot_Quotas hv hlim fun H1 w1 x1 o1 => ?_
  replace x1 : HX H H1 := x1
  have l1 := x1.len
  have hv1 := hv.mono x1
  simp [hv.stor, o1.sl.stor, o1.sl.one]
  refine ref_Quotas hv1 (by omega) fun H2 w2 x2 o2 => ?_
  replace x2 : HX H1 H2 := x2
  have l2 := x2.len
  have o1 := o1.mono x2
  have hql : (quoL l n).length ≤ 6 := by
    by_cases h : quoE l n = 0
    · exact (quo_sum h).2.1
    · unfold quoL; rw [if_neg h]; simp
  simp [o1.sl.stor, o2.sl.stor, o2.sl.one]
  refine ref_SameInts o1.sl o2.sl (by omega) ?_
  simp
  by_cases h : quoE l n = 0
  · obtain ⟨s1, s2, s3⟩ := quo_sum h
    refine wLoop_up (quoL l n).length (fun i fr L H' => (fr 1 = .int .i64 n ∧ fr 5 = w1 ∧ fr 6 = .int .i64 0 ∧ fr 9 = .int .i64 ((quoL l n).take i).sum ∧ fr 10 = .int .i64 i) ∧ H' = H2) ⟨by simp [h], rfl⟩ ?_
    rintro i hi fr L H' ⟨⟨f1, f5, f6, f9, f10⟩, e0⟩
    have e0 := e0.symm
    subst e0
    simp [f1, f5, f6, f9, f10, o1.sl.len]
    refine cond_dec (fun ht => ?_) fun hfl => ?_
    · have ht : i < (quoL l n).length := by omega
      have a1 := o1.sl.addr (i := (i : Int)) (by omega)
      simp only [Int.toNat_natCast] at a1
      have g1 := fun L => o1.sl.load (L := L) (i := i) ht
      have hb := s3 i ht
      have hts := take_sum (l := quoL l n) ht
      have hsb : -10000000 ≤ ((quoL l n).take i).sum ∧ ((quoL l n).take i).sum ≤ 10000000 := by
        have : ∀ j, j ≤ (quoL l n).length → 0 ≤ ((quoL l n).take j).sum ∧ ((quoL l n).take j).sum ≤ 600600 * j := fun j => by
          induction j with
          | zero => intro _; simp
          | succ j ih =>
            intro hj
            have h1 := ih (by omega)
            have h2 := s3 j (by omega)
            rw [take_sum (by omega)]; omega
        have := this i (by omega)
        omega
      simp (disch := omega) [f1, f5, f6, f9, f10, a1, g1, wrap_i64, hts]
      omega
    · have : i = (quoL l n).length := by omega
      subst this
      rw [List.take_length, s1] at f9
      simp [f1, f5, f6, f9, f10]
      refine law_known (by omega) fun H3 _ => ?_
      simp
      exact hK _
  · have e2 : quoL l n = [] := by unfold quoL; rw [if_neg h]
    rw [e2] at o1
    refine wLoop_up 0 (fun i fr L H' => (fr 5 = w1 ∧ fr 6 = .int .i64 (quoE l n) ∧ fr 10 = .int .i64 0) ∧ H' = H2) ⟨by simp, rfl⟩ ?_
    rintro i hi fr L H' ⟨⟨f5, f6, f10⟩, e0⟩
    have e0 := e0.symm
    subst e0
    simp [f5, f6, f10, o1.sl.len, eq_false h]
    refine law_known (by omega) fun H3 _ => ?_
    simp
    exact hK _
end
end Go.Proofs.Ytakbcmofgfjeiaa.Vm
