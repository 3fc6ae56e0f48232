/- The document's Set and Part; FlowSets. -/
import Derived.Test.YtnfhccioglpjhaaFyC
namespace Go.Proofs.Ytnfhccioglpjhaa.Vm
open Go
set_option maxRecDepth 100000
set_option maxHeartbeats 1000000
set_option linter.unusedSimpArgs false
set_option linter.unusedVariables false
attribute [-simp] List.getD_eq_getElem?_getD
section
variable {n lim : Nat} {H : Hp} {K : V → Hp → Prop} {v d p : V} {D : List Int} {P : List Ed} {W Q x y z : Int}
theorem cntE_pos {e : Ed} : ∀ i, i ≤ P.length → (0 < cntE P e.x e.y e.u i ↔ ∃ j, j < i ∧ P.getD j default = e) := by
  intro i
  induction i with
  | zero => intro _; simp [cntE]
  | succ i ih =>
    intro hi
    have hi' := ih (by omega)
    have hb := (cntE_bd (P := P) (x := e.x) (y := e.y) (u := e.u) i).1
    rw [cntE]
    have hex : ((P.getD i default).x = e.x ∧ (P.getD i default).y = e.y ∧ (P.getD i default).u = e.u) ↔ P.getD i default = e := by
      generalize P.getD i default = a
      cases a; cases e; simp
    by_cases hc : P.getD i default = e
    · rw [if_pos (hex.2 hc)]
      exact ⟨fun _ => ⟨i, by omega, hc⟩, fun _ => by omega⟩
    · rw [if_neg (fun h => hc (hex.1 h)), Int.add_zero, hi']
      constructor
      · rintro ⟨j, hj, h⟩; exact ⟨j, by omega, h⟩
      · rintro ⟨j, hj, h⟩
        refine ⟨j, ?_, h⟩
        have : j ≠ i := fun e1 => hc (e1 ▸ h)
        omega
theorem cntE_mem {e : Ed} : decide (0 < cntE P e.x e.y e.u P.length) = decide (e ∈ P) := by
  rw [decide_eq_decide, cntE_pos _ (Nat.le_refl _), List.mem_iff_getElem]
  constructor
  · rintro ⟨j, hj, h⟩
    rw [List.getD_eq_getElem?_getD, List.getElem?_eq_getElem hj] at h
    exact ⟨j, hj, h⟩
  · rintro ⟨j, hj, h⟩
    exact ⟨j, hj, by rw [List.getD_eq_getElem?_getD, List.getElem?_eq_getElem hj]; exact h⟩
theorem ref_isPlaceB (hd : Vm.stor d = true) (hp : Vm.stor p = true) (hW : 1 ≤ W ∧ W ≤ 12) (hQ : 1 ≤ Q ∧ Q ≤ 12) (hK : K (.bool (isPB W Q x y)) H) : VCall tbl lim 20 [.agg [.int .i64 W, .int .i64 Q, d, p], .int .i64 x, .int .i64 y] H K := ref_isPlace hd hp hW hQ hK
def in7 (z : Int) : Bool := decide (0 ≤ z ∧ z ≤ 7)
theorem ref_withinB {n : Int} (hK : K (.bool (in7 n)) H) : VCall tbl lim 21 [.int .i64 n, .int .i64 0, .int .i64 7] H K := ref_within hK
theorem setE_out {w q : Nat} (hf : PreF w q D P) (h0 : ¬ validP w q D P ≠ 0) (hb : isPB w q x y = true) (hz : in7 z = false) : setE w q D P x y z = 1 := by
  obtain ⟨m, hm, m1, m2, px1, px2, k1, k2⟩ := place_at hf.w1 hf.q1 hb
  obtain ⟨k, hk⟩ : ∃ k : Nat, m + x = k := ⟨(m + x).toNat, by omega⟩
  have hdl := hf.dl
  have hkl : k < D.length := by omega
  have hsl : setL w D x y z = D.set k z := by unfold setL; rw [hm, hk]; simp
  unfold setE
  rw [if_neg h0, if_neg (by rw [hb]; decide), hsl]
  have hw := hf.w1
  have hq := hf.q1
  rw [validP_2 (by rw [List.length_set]; omega)]
  have : allN (dOk (D.set k z)) (D.set k z).length = false := by
    refine allN_not (i := k) (by rw [List.length_set]; exact hkl) ?_
    have hz : ¬ (0 ≤ z ∧ z ≤ 7) := by simpa [in7] using hz
    simp only [dOk]
    rw [List.getD_eq_getElem?_getD, List.getElem?_set_self hkl]
    exact decide_eq_false hz
  rw [if_pos this]
theorem ref_Set (hd : SlV H d D) (hp : EdV H p P) (hW : I64 W) (hQ : I64 Q) (hz : I64 z) (hl : D.length ≤ 1000 ∧ P.length ≤ 1000) (hlim : lim ≤ H.length)
    (hbad : setE W Q D P x y z ≠ 0 → ∀ H', HX H H' → K (.tup [.agg [.int .i64 0, .int .i64 0, .snil, .snil], .int .i64 (setE W Q D P x y z)]) H')
    (hK : setE W Q D P x y z = 0 → ∀ H' d' p', HX H H' → SlV H' d' (setL W D x y z) → EdV H' p' P → K (.tup [.agg [.int .i64 W, .int .i64 Q, d', p'], .int .i64 0]) H') :
    VCall tbl lim 8 [.agg [.int .i64 W, .int .i64 Q, d, p], .int .i64 x, .int .i64 y, .int .i64 z] H K := by
  refine VCall_fn tbl_at8 rfl ?_
  simp [vf8, hd.stor, hp.stor]
  refine ref_Validate hd hp hW hQ ⟨by omega, by omega⟩ hlim fun H1 x1 => ?_
  replace x1 : HX H H1 := x1
  have l1 := x1.len
  simp
  refine cond_ndec (fun h => ?_) fun h => ?_
  · have e1 : setE W Q D P x y z = validP W Q D P := by unfold setE; rw [if_pos h]
    simp
    have := hbad (by rw [e1]; exact h) H1 x1
    rw [e1] at this
    exact this
  have h0 : ¬ validP W Q D P ≠ 0 := by simpa using h
  obtain ⟨w, q, rfl, rfl, hf⟩ := valid_pre (by simpa using h)
  simp [hd.stor, hp.stor]
  refine ref_isPlaceB hd.stor hp.stor (by have := hf.w1; omega) (by have := hf.q1; omega) ?_
  simp
  refine cond_bool (fun hb => ?_) fun hb => ?_
  · have hb : isPB w q x y = false := by simpa using hb
    have e1 : setE w q D P x y z = 5 := by unfold setE; rw [if_neg h0, if_pos hb]
    simp
    have := hbad (by rw [e1]; decide) H1 x1
    rw [e1] at this
    exact this
  have hb : isPB w q x y = true := by simpa using hb
  simp
  refine ref_withinB ?_
  simp
  refine cond_bool (fun h7 => ?_) fun h7 => ?_
  · have h7 : in7 z = false := by simpa using h7
    have e1 := setE_out hf h0 hb h7
    simp
    have := hbad (by rw [e1]; decide) H1 x1
    rw [e1] at this
    exact this
  have e1 : setE w q D P x y z = validP w q (setL w D x y z) P := by unfold setE; rw [if_neg h0, if_neg (by rw [hb]; decide)]
  rw [e1] at hbad hK
  simp [hd.stor, hp.stor]
  refine ref_CopyO (hd.mono x1) (hp.mono x1) hl (by omega) fun H2 H3 d1 p1 x2 x3 o0 o1 o2 => ?_
  replace x2 : HX H1 H2 := x2
  replace x3 : HX H2 H3 := x3
  have l2 := x2.len
  have l3 := x3.len
  have hb0 := o0.below
  obtain ⟨m, hm, m1, m2, px1, px2, k1, k2⟩ := place_at hf.w1 hf.q1 hb
  have hlen : (D.length : Int) = (w : Int) * q := hf.dl
  obtain ⟨k, hk⟩ : ∃ k : Nat, m + x = k := ⟨(m + x).toNat, by omega⟩
  have hkl : k < D.length := by omega
  have hsl : setL w D x y z = D.set k z := by unfold setL; rw [hm, hk]; simp
  rw [hsl] at hbad hK
  have hst := fun L => o1.store (lim := lim) (i := k) (x := z) (L := L) ⟨by omega, hkl⟩
  have hw1 : IntKind.wrap .i64 (y * (w : Int)) = m := by rw [hm]; exact wrap_i64 (by omega) (by omega)
  have hw2 : IntKind.wrap .i64 (m + x) = (k : Int) := by rw [hk]; exact wrap_i64 (by omega) (by omega)
  simp [o1.sl.stor, o2.lst.stor, o1.sl.len]
  rw [hw1, hw2]
  simp (disch := omega) [o1.sl.addr, hkl, hst, -vstore]
  have q1 : OwnV H1.length (setH H3 d1 (ints (D.set k z))) d1 (D.set k z) := o1.put (by simp)
  have q2 : EdV (setH H3 d1 (ints (D.set k z))) p1 P := ⟨(o2.keep fun b hb2 => setH_oth o1 hb0 (Or.inr hb2)).lst, hp.all⟩
  have q3 : HX H1 (setH H3 d1 (ints (D.set k z))) := setH_X (x2.trans x3) o1 (Nat.le_refl _)
  have q3l := q3.len
  try simp [q1.sl.stor, q2.stor]
  refine ref_resultE q1.sl q2 hW hQ (by simpa using hl) (by omega) (fun hb2 H4 x4 => ?_) fun hg H4 x4 => ?_
  · replace x4 : HX (setH H3 d1 (ints (D.set k z))) H4 := x4
    simp
    exact hbad hb2 _ ((x1.trans q3).trans x4)
  · replace x4 : HX (setH H3 d1 (ints (D.set k z))) H4 := x4
    simp [q1.sl.stor, q2.stor]
    exact hK hg _ _ _ ((x1.trans q3).trans x4) (q1.sl.mono x4) (q2.mono x4)
theorem ref_Part {e : Ed} (hd : SlV H d D) (hp : EdV H p P) (hW : I64 W) (hQ : I64 Q) (he : e.in64) (hl : D.length ≤ 900 ∧ P.length ≤ 900) (hlim : lim ≤ H.length)
    (hbad : partE W Q D P e ≠ 0 → ∀ H', HX H H' → K (.tup [.agg [.int .i64 0, .int .i64 0, .snil, .snil], .int .i64 (partE W Q D P e)]) H')
    (hK : partE W Q D P e = 0 → ∀ H' d' p', HX H H' → SlV H' d' D → EdV H' p' (partL P e) → K (.tup [.agg [.int .i64 W, .int .i64 Q, d', p'], .int .i64 0]) H') :
    VCall tbl lim 10 [.agg [.int .i64 W, .int .i64 Q, d, p], .agg [.int .i64 e.x, .int .i64 e.y, .int .i64 e.u]] H K := by
  refine VCall_fn tbl_at10 rfl ?_
  simp [vf10, hd.stor, hp.stor]
  refine ref_Validate hd hp hW hQ ⟨by omega, by omega⟩ hlim fun H1 x1 => ?_
  replace x1 : HX H H1 := x1
  have l1 := x1.len
  simp
  refine cond_ndec (fun h => ?_) fun h => ?_
  · have e1 : partE W Q D P e = validP W Q D P := by unfold partE; rw [if_pos h]
    simp
    have := hbad (by rw [e1]; exact h) H1 x1
    rw [e1] at this
    exact this
  have h0 : ¬ validP W Q D P ≠ 0 := by simpa using h
  obtain ⟨w, q, rfl, rfl, hf⟩ := valid_pre (by simpa using h)
  simp [hd.stor, hp.stor]
  refine ref_isEdge (W := (w : Int)) (Q := (q : Int)) hd.stor hp.stor (by have := hf.w1; omega) (by have := hf.q1; omega) ?_
  simp
  refine cond_bool (fun hb => ?_) fun hb => ?_
  · have hb : isEB w q e.x e.y e.u = false := by simpa using hb
    have e1 : partE w q D P e = 5 := by unfold partE; rw [if_neg h0, if_pos hb]
    simp
    have := hbad (by rw [e1]; decide) H1 x1
    rw [e1] at this
    exact this
  have hb : isEB w q e.x e.y e.u = true := by simpa using hb
  have e1 : partE w q D P e = validP w q D (partL P e) := by unfold partE; rw [if_neg h0, if_neg (by rw [hb]; decide)]
  rw [e1] at hbad hK
  simp [hd.stor, hp.stor]
  refine ref_Copy (hd.mono x1) (hp.mono x1) ⟨by omega, by omega⟩ (by omega) fun H2 d1 p1 x2 o1 o2 => ?_
  replace x2 : HX H1 H2 := x2
  have l2 := x2.len
  simp [o1.stor, o2.stor, hd.stor, hp.stor]
  have hpm := (hp.mono x1).mono x2
  refine ref_parted hd.stor hpm (by omega) ?_
  rw [cntE_mem]
  simp
  refine cond_bool (fun hn => ?_) fun hm => ?_
  · have hn : e ∉ P := by simpa using hn
    have hpl : partL P e = putL P e := by unfold partL; rw [if_neg hn]
    simp [hp.stor]
    refine ref_put hpm.lst (by omega) (by omega) fun H3 p2 x3 o3 => ?_
    replace x3 : HX H2 H3 := x3
    have l3 := x3.len
    rw [← hpl] at o3
    have hp2 : EdV H3 p2 (partL P e) := ⟨o3.lst, EdV.part hp.all he⟩
    simp [o3.lst.stor, o3.lst.one, o1.stor]
    refine ref_resultE (o1.mono x3) hp2 hW hQ ⟨by omega, by have := partL_len (P := P) (e := e); omega⟩ (by omega) (fun hb2 H6 x6 => ?_) fun hg H6 x6 => ?_
    · simp
      exact hbad hb2 _ (((x1.trans x2).trans x3).trans x6)
    · simp [hp2.stor, o1.stor]
      exact hK hg _ _ _ (((x1.trans x2).trans x3).trans x6) ((o1.mono x3).mono x6) (hp2.mono x6)
  · have hm : e ∈ P := by simpa using hm
    have hpl : partL P e = P.filter (fun a => decide (a ≠ e)) := by unfold partL; rw [if_pos hm]
    simp [o1.stor]
    refine wLoop_up P.length (fun i fr L H' => ∃ u, (fr 2 = .lp 0 0 ∧ fr 3 = .lp 1 0 ∧ fr 4 = .lp 2 0 ∧ fr 7 = .lp 3 0 ∧ fr 8 = .int .i64 i) ∧ L = [[.int .i64 w, .int .i64 q, d, p], [.int .i64 e.x, .int .i64 e.y, .int .i64 e.u], [.int .i64 0, .int .i64 0, .snil, .snil], [.int .i64 w, .int .i64 q, d1, u]] ∧ HX H2 H' ∧ OwnT H2.length edC H' u ((P.take i).filter (fun a => decide (a ≠ e)))) ⟨.snil, by simp, by simp, .refl, .nil⟩ ?_
    rintro i hi fr L H3 ⟨u, ⟨f2, f3, f4, f7, f8⟩, rfl, x3, hu⟩
    have l3 := x3.len
    have hp3 := hpm.mono x3
    simp [f2, f3, f4, f7, f8, hp3.len]
    refine cond_dec (fun ht => ?_) fun hfl => ?_
    · have ht : i < P.length := by omega
      have hex : (decide ((P.getD i default).x = e.x) && (decide ((P.getD i default).y = e.y) && decide ((P.getD i default).u = e.u))) = decide (P.getD i default = e) := by
        generalize P.getD i default = a
        cases a; cases e; simp
      have et : P.take (i + 1) = P.take i ++ [P.getD i default] := by
        rw [List.take_add_one, List.getElem?_eq_getElem ht]; simp [List.getD_eq_getElem?_getD, ht]
      obtain ⟨v', H4, a1, a2, a3, a4, a5, a6⟩ := hu.append (lim := lim) (bytes := 24) (x := P.getD i default) (cs := [.int .i64 (P.getD i default).x, .int .i64 (P.getD i default).y, .int .i64 (P.getD i default).u]) rfl ⟨by omega, x3.len⟩ (by omega) (by
        have := List.length_filter_le (fun a => decide (a ≠ e)) (P.take i)
        have := List.length_take_le i P
        omega)
      by_cases hc : P.getD i default = e
      · have ef : (P.take (i + 1)).filter (fun a => decide (a ≠ e)) = (P.take i).filter (fun a => decide (a ≠ e)) := by rw [et, List.filter_append]; simp [hc]
        have hd1 : decide (P.getD i default = e) = true := decide_eq_true hc
        simp (disch := omega) [f2, f3, f4, f7, f8, hp3.addr, hp3.load, veqA_3, hex, hd1, wrap_i64]
        rw [← ef] at hu
        exact ⟨by omega, x3, by simpa using hu⟩
      · have ef : (P.take (i + 1)).filter (fun a => decide (a ≠ e)) = (P.take i).filter (fun a => decide (a ≠ e)) ++ [P.getD i default] := by rw [et, List.filter_append]; simp [hc]
        have hd1 : decide (P.getD i default = e) = false := decide_eq_false hc
        simp (disch := omega) [f2, f3, f4, f7, f8, hp3.addr, hp3.load, veqA_3, hex, hd1, wrap_i64, splice33, a1, a2.lst.stor, a2.lst.one]
        rw [← ef] at a2
        exact ⟨by omega, a3 _ x3 (Nat.le_refl _), by simpa using a2⟩
    · have : i = P.length := by omega
      subst this
      rw [List.take_length, ← hpl] at hu
      have hp2 : EdV H3 u (partL P e) := ⟨hu.lst, EdV.part hp.all he⟩
      simp [f2, f3, f4, f7, f8, hp2.stor, o1.stor]
      refine ref_resultE (o1.mono x3) hp2 hW hQ ⟨by omega, by have := partL_len (P := P) (e := e); omega⟩ (by omega) (fun hb2 H6 x6 => ?_) fun hg H6 x6 => ?_
      · simp [f4]
        exact hbad hb2 _ (((x1.trans x2).trans x3).trans x6)
      · simp [hp2.stor, o1.stor, f4]
        exact hK hg _ _ _ (((x1.trans x2).trans x3).trans x6) ((o1.mono x3).mono x6) (hp2.mono x6)
end
end Go.Proofs.Ytnfhccioglpjhaa.Vm
