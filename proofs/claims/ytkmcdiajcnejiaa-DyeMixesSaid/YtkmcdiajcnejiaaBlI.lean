/- Package dye over the machine: the document's merged; normal blends. -/
import Derived.Test.YtkmcdiajcnejiaaBlH
namespace Go.Proofs.Ytkmcdiajcnejiaa.Vm
open Go
set_option maxRecDepth 100000
set_option maxHeartbeats 1000000
set_option linter.unusedSimpArgs false
set_option linter.unusedVariables false
attribute [-simp] List.getD_eq_getElem?_getD
/-- a blend as far as weights are added up -/
def Okw (l : List Prt) : Prop := l.length ≤ 100 ∧ ∀ i, i < l.length → okS (l.getD i default) ∧ 0 ≤ (l.getD i default).w ∧ (l.getD i default).w ≤ 1000
theorem Okw.bd {l : List Prt} (h : Okw l) {k : Int} : 0 ≤ wtN l k ∧ wtN l k ≤ 100000 := by
  have := wtN_bd (i := k) (B := 1000) (by omega) (A := l) fun p hp => by
    obtain ⟨i, hi, e⟩ := mem_getD hp
    rw [← e]; have := h.2 i hi; omega
  have := h.1
  omega
def mixW (a : List Prt) (wa : Int) (b : List Prt) (wb : Int) (i : Int) : Int := wa * wtN a i + wb * wtN b i
theorem mul_bd2 {a b : Int} (ha : 0 ≤ a ∧ a ≤ 10000000) (hb : 0 ≤ b ∧ b ≤ 100000) : 0 ≤ a * b ∧ a * b ≤ 1000000000000 := by
  refine ⟨Int.mul_nonneg ha.1 hb.1, ?_⟩
  exact Int.le_trans (Int.mul_le_mul_of_nonneg_right ha.2 hb.1) (Int.le_trans (Int.mul_le_mul_of_nonneg_left hb.2 (by omega)) (by omega))
theorem mixW_bd {a b : List Prt} {wa wb : Int} (ha : Okw a) (hb : Okw b) (h1 : 0 ≤ wa ∧ wa ≤ 10000000) (h2 : 0 ≤ wb ∧ wb ≤ 10000000) (i : Int) : 0 ≤ mixW a wa b wb i ∧ mixW a wa b wb i ≤ 2000000000000 := by
  have := mul_bd2 h1 (ha.bd (k := i))
  have := mul_bd2 h2 (hb.bd (k := i))
  unfold mixW
  omega
theorem canN_w {W : Int → Int} {n i : Nat} (hi : i < (canN W n).length) (hW : ∀ i, 0 ≤ W i ∧ W i ≤ 2000000000000) : 1 ≤ ((canN W n).getD i default).w ∧ ((canN W n).getD i default).w ≤ 2000000000000 := by
  obtain ⟨j, _, e, hw⟩ := canN_mem (getD_mem hi)
  have e2 : ((canN W n).getD i default).w = W j := by rw [e]; rfl
  rw [e2]
  have := hW j
  omega
section
variable {lim : Nat} {H : Hp} {K : V → Hp → Prop} {v w : V} {l m : List Prt} {x y u1 u2 u3 : Int}
theorem ref_merged {va vb : V} {a b : List Prt} {wa wb : Int} (hva : LstV prC H va a) (hvb : LstV prC H vb b) (ha : Okw a) (hb : Okw b) (h1 : 0 ≤ wa ∧ wa ≤ 10000000) (h2 : 0 ≤ wb ∧ wb ≤ 10000000) (hlim : lim ≤ H.length)
    (hK : ∀ H' v', HX H H' → LstV prC H' v' (nrmP (canN (mixW a wa b wb) 240)).1 → K (.tup [v', .int .i64 (nrmP (canN (mixW a wa b wb) 240)).2]) H') : VCall tbl lim 44 [va, .int .i64 wa, vb, .int .i64 wb] H K := by
  refine VCall_fn tbl_at44 rfl ?_
  have hWb := mixW_bd ha hb h1 h2
  simp [vf44]
  refine ref_shades hlim fun H1 sv x1 hs => ?_
  replace x1 : HX H H1 := x1
  have l1 := x1.len
  have hva1 := hva.mono x1
  have hvb1 := hvb.mono x1
  simp
  refine wLoop_up 240 (fun i fr L H' => ∃ q, (fr 0 = va ∧ fr 1 = .int .i64 wa ∧ fr 2 = vb ∧ fr 3 = .int .i64 wb ∧ fr 10 = sv ∧ fr 11 = q ∧ fr 12 = .int .i64 (gN (canN (mixW a wa b wb) i) (canN (mixW a wa b wb) i).length : Nat) ∧ fr 13 = .int .i64 i) ∧ HX H1 H' ∧ OwnT H1.length prC H' q (canN (mixW a wa b wb) i)) ⟨.snil, by simp [canN, gN], HX.refl, .nil⟩ ?_
  rintro i hi fr L H2 ⟨q, ⟨f0, f1, f2, f3, f10, f11, f12, f13⟩, x2, hq⟩
  have l2 := x2.len
  have hs2 := hs.lst.mono x2
  simp [f0, f1, f2, f3, f10, f11, f12, f13, hs2.len, shL2_len]
  refine cond_dec (fun ht => ?_) fun hfl => ?_
  · have ht : i < 240 := by omega
    have ads := hs2.at (i := i) (by rw [shL2_len]; omega)
    have lds : ∀ L, vload (some 3) L H2 (ept 3 sv i) = some (.agg [.int .i64 (mkS i).l, .int .i64 (mkS i).t, .int .i64 (mkS i).b]) := fun L => by
      have := hs2.load (i := i) (by rw [shL2_len]; omega) (L := L)
      rw [shL2_at ht] at this; exact this
    simp (disch := omega) [f0, f1, f2, f3, f10, f11, f12, f13, ads, lds, lpId_ept, (hva1.mono x2).stor]
    refine ref_weight (hva1.mono x2) ha.1 ha.2 ht ?_
    have m1 := mul_bd2 h1 (ha.bd (k := (i : Int)))
    have m2 := mul_bd2 h2 (hb.bd (k := (i : Int)))
    have hWi : mixW a wa b wb (i : Int) = wa * wtN a i + wb * wtN b i := rfl
    have hsucc : canN (mixW a wa b wb) (i + 1) = canN (mixW a wa b wb) i ++ if mixW a wa b wb (i : Int) ≠ 0 then [mkP i (mixW a wa b wb i)] else [] := rfl
    have hcl := canN_len (W := mixW a wa b wb) (n := i)
    simp (disch := omega) [f0, f1, f2, f3, f10, f11, f12, f13, ads, lds, lpId_ept, (hvb1.mono x2).stor]
    refine ref_weight (hvb1.mono x2) hb.1 hb.2 ht ?_
    generalize canN (mixW a wa b wb) (i + 1) = D at *
    generalize hP1 : wa * wtN a i = P1 at *
    generalize hP2 : wb * wtN b i = P2 at *
    generalize hWW : mixW a wa b wb (i : Int) = n at *
    have w1 : IntKind.i64.wrap P1 = P1 := wrap_i64 (by omega) (by omega)
    have w2 : IntKind.i64.wrap P2 = P2 := wrap_i64 (by omega) (by omega)
    have w3 : IntKind.i64.wrap (P1 + P2) = n := by rw [wrap_i64 (by omega) (by omega)]; omega
    simp (disch := omega) [f0, f1, f2, f3, f10, f11, f12, f13, hP1, hP2, w1, w2, w3]
    refine cond_dec (fun hpos => ?_) fun hz => ?_
    · rw [if_pos (show n ≠ 0 by omega)] at hsucc
      subst hsucc
      obtain ⟨nn, hnn⟩ : ∃ nn : Nat, n = nn := ⟨n.toNat, by omega⟩
      generalize canN (mixW a wa b wb) i = C at *
      obtain ⟨v', H', a1, a2, a3, a4, a5, a6⟩ := hq.append (lim := lim) (bytes := 32) (x := mkP i n) (cs := [.int .i64 (mkS i).l, .int .i64 (mkS i).t, .int .i64 (mkS i).b, .int .i64 n]) rfl ⟨by omega, by omega⟩ (by omega) (by omega)
      have hgs := gN_snoc (A := C) (p := mkP i n)
      have hgn : (mkP i n).w.toNat = nn := by simp only [mkP]; omega
      rw [hgn] at hgs
      have hCl : (C ++ [mkP i n]).length = C.length + 1 := by simp
      rw [hCl, hgs]
      simp (disch := omega) [f0, f1, f2, f3, f10, f11, f12, f13, ads, lds, lpId_ept, vbslice_some, splice, iz4, a1]
      rw [hnn]
      refine ref_divisor ?_
      simp (disch := omega) [f0, f1, f2, f3, f10, f11, f13, wrap_i64]
      first
        | exact ⟨by omega, a3 _ x2 (Nat.le_refl _), by rw [← hnn]; exact a2⟩
        | (rw [← hnn]; exact ⟨by omega, a3 _ x2 (Nat.le_refl _), a2⟩)
    · rw [if_neg (show ¬ n ≠ 0 by omega), List.append_nil] at hsucc
      subst hsucc
      simp (disch := omega) [f0, f1, f2, f3, f10, f11, f12, f13, wrap_i64]
      exact ⟨by omega, x2, hq⟩
  have hi4 : i = 240 := by omega
  subst hi4
  have hCw := fun i hi => canN_w (W := mixW a wa b wb) (n := 240) (i := i) hi hWb
  have hCl := canN_len (W := mixW a wa b wb) (n := 240)
  generalize canN (mixW a wa b wb) 240 = C at *
  clear f0 f1 f2 f3 f10 f13
  have e6 : decide (6 < (C.length : Int)) = decide (6 < C.length) := by simp only [decide_eq_decide]; omega
  simp [f11, f12]
  by_cases h0 : C.length = 0
  · have hC0 : C = [] := List.length_eq_zero_iff.1 h0
    subst hC0
    have := hK H2 q (x1.trans x2) hq.lst
    have e : nrmP [] = ([], 0) := rfl
    rw [e] at this
    refine wLoop_round ?_
    have hlen := hq.lst.len
    have hst := hq.lst.stor
    simp [f11, hlen, hst]
    exact this
  have hR : RowP H1.length H2 q C [] := by
    cases hq with
    | nil => simp at h0
    | row h1 h2 => exact ⟨_, h1, rfl, by rw [List.append_nil]; exact h2⟩
  have hgp := gN_pos (L := C) (n := C.length) (by omega) (Nat.le_refl _) fun i hi => (hCw i hi).1
  generalize hg : gN C C.length = g at *
  refine wLoop_up C.length (fun i fr L H' => ∃ M, (fr 11 = q ∧ fr 12 = .int .i64 (g : Nat) ∧ fr 15 = .int .i64 i) ∧ H' = setH H2 q (prC.all M ++ []) ∧ M.length = C.length ∧ (∀ j, M.getD j default = if j < i then dvW g (C.getD j default) else C.getD j default) ∧ allN (ltB g C) i = true) ⟨C, by simp [f11, f12], hR.same.symm, rfl, fun j => by simp, rfl⟩ ?_
  clear f11 f12
  rintro i hi fr L H' ⟨M, ⟨f11, f12, f15⟩, e0, hM, hMj, hall⟩
  subst e0
  have hR2 := hR.put (m := M) hM
  have hx3 : ∀ cs, HX H (setH H2 q cs) := fun cs => HX.of (by rw [hR.len2]; omega) fun b hb => by rw [hR.old (by omega)]; exact (x1.trans x2).same hb
  simp [f11, f12, f15, hR2.pre.lst.len, hM, -List.append_nil]
  refine cond_dec (fun ht => ?_) fun hfl => ?_
  · have ht : i < C.length := by omega
    have hwi := hCw i ht
    have hMi : M.getD i default = C.getD i default := by rw [hMj i, if_neg (by omega)]
    have ad := hR2.pre.lst.at (i := i) (by omega)
    have fa3 : vfaddr 3 (ept 4 q i) = some (eptf 4 q i 3) := hR2.pre.lst.faddr (by omega)
    have gw := fun L => prt_get hR2.pre.lst (i := i) (j := 3) (by omega) (by omega) (L := L)
    have hq1 : 0 ≤ (C.getD i default).w.tdiv g ∧ (C.getD i default).w.tdiv g ≤ (C.getD i default).w := by
      rw [Int.tdiv_eq_ediv_of_nonneg (by omega)]
      exact ⟨Int.ediv_nonneg (by omega) (by omega), Int.ediv_le_self _ (by omega)⟩
    have hdw : (dvW g (C.getD i default)).w = (C.getD i default).w.tdiv g := rfl
    have hg0 : ¬ (g : Int) = 0 := by omega
    have sw := fun L => hR2.store (lim := lim) (by omega) (i := i) (by omega) ((C.getD i default).w.tdiv g) L
    simp only [hR.twice] at sw
    have hMs : M.set i (setW (M.getD i default) ((C.getD i default).w.tdiv g)) = M.set i (dvW g (C.getD i default)) := by rw [hMi]; rfl
    simp only [hMs] at sw
    have hM3 : (M.set i (dvW g (C.getD i default))).length = C.length := by simpa using hM
    have hR3 := hR.put (m := M.set i (dvW g (C.getD i default))) hM3
    have ad3 := hR3.pre.lst.at (i := i) (by omega)
    have gw3 := fun L => prt_get hR3.pre.lst (i := i) (j := 3) (by omega) (by omega) (L := L)
    have hget : (M.set i (dvW g (C.getD i default))).getD i default = dvW g (C.getD i default) := by
      rw [List.getD_eq_getElem?_getD, List.getElem?_set_self (by omega)]; rfl
    simp only [hget, hdw] at gw3
    simp only [hMi] at gw
    generalize hqq : (C.getD i default).w.tdiv g = qq at *
    have hwq : IntKind.i64.wrap qq = qq := wrap_i64 (by omega) (by omega)
    simp (disch := omega) [f11, f12, f15, ad, fa3, gw, lpId_ept, lpId_eptf, rd4_3, hg0, hqq, hwq, sw, ad3, gw3, -vstore, -List.append_nil]
    refine cond_dec (fun hbig => ?_) fun hbig => ?_
    · have hno : allN (ltB g C) C.length = false := allN_not ht (by simp only [ltB, hdw, hqq]; exact decide_eq_false (by omega))
      have e : nrmP C = ([], 4) := by
        unfold nrmP
        split
        · rfl
        · rw [hg, if_neg (by rw [hno]; simp)]
      have := hK _ .snil (hx3 (prC.all (M.set i (dvW g (C.getD i default))) ++ [])) (by rw [e]; exact .nil)
      rw [e] at this
      simp [-List.append_nil]
      exact this
    · simp (disch := omega) [f11, f12, f15, wrap_i64, -List.append_nil]
      refine ⟨by omega, M.set i (dvW g (C.getD i default)), rfl, hM3, fun j => ?_, ?_⟩
      · by_cases e : j = i
        · subst e; rw [hget, if_pos (by omega)]
        · have : (M.set i (dvW g (C.getD i default))).getD j default = M.getD j default := by
            rw [List.getD_eq_getElem?_getD, List.getElem?_set_ne (fun h => e h.symm), ← List.getD_eq_getElem?_getD]
          rw [this, hMj j]
          by_cases hji : j < i
          · rw [if_pos hji, if_pos (by omega)]
          · rw [if_neg hji, if_neg (by omega)]
      · simp only [allN, hall, Bool.true_and, ltB, hdw, hqq]
        exact decide_eq_true (by omega)
  · have hil : i = C.length := by omega
    subst hil
    have hMe : M = C.map (dvW g) := by
      refine same_of (by simpa using hM) fun j hj => ?_
      rw [hMj j, if_pos (by omega), List.getD_eq_getElem?_getD, List.getD_eq_getElem?_getD, List.getElem?_map, List.getElem?_eq_getElem (by omega)]
      rfl
    have hst := hR2.pre.lst.stor
    have hlen := hR2.pre.lst.len
    rw [hM] at hlen
    by_cases h6 : 6 < C.length
    · have e : nrmP C = ([], 4) := by unfold nrmP; rw [if_pos h6]
      have := hK _ .snil (hx3 (prC.all M ++ [])) (by rw [e]; exact .nil)
      rw [e] at this
      simp [f11, hlen, e6, h6, -List.append_nil]
      exact this
    · have e : nrmP C = (M, 0) := by unfold nrmP; rw [if_neg h6, hg, if_pos hall, hMe]
      have := hK _ q (hx3 (prC.all M ++ [])) (by rw [e]; exact hR2.pre.lst)
      rw [e] at this
      simp [f11, hlen, e6, h6, hst, -List.append_nil]
      exact this
end
end Go.Proofs.Ytkmcdiajcnejiaa.Vm
