/- FlowSets: which field it is with another direction, or with a parting more or less. -/
import Derived.Test.YtnfhccioglpjhaaFyD
namespace Go.Proofs.Ytnfhccioglpjhaa.Vm
open Go
set_option maxRecDepth 100000
set_option maxHeartbeats 1000000
set_option linter.unusedSimpArgs false
set_option linter.unusedVariables false
attribute [-simp] List.getD_eq_getElem?_getD
section
variable {n lim : Nat} {H : Hp} {K : V → Hp → Prop} {v d p : V} {D : List Int} {P : List Ed} {W Q x y z : Int}
/-- what stands if there is no error -/
def ifOk {α : Type} (e : Int) (a b : α) : α := if e = 0 then a else b
theorem ifOk_pos {α : Type} {e : Int} (h : e = 0) (a b : α) : ifOk e a b = a := if_pos h
theorem ifOk_neg {α : Type} {e : Int} (h : ¬ e = 0) (a b : α) : ifOk e a b = b := if_neg h
theorem flow_SetU (hd : SlV H d D) (hp : EdV H p P) (hW : I64 W) (hQ : I64 Q) (hz : I64 z) (hl : D.length ≤ 1000 ∧ P.length ≤ 1000) (hlim : lim ≤ H.length)
    (hK : ∀ H' d' p', HX H H' → OwnV H.length H' d' (ifOk (setE W Q D P x y z) (setL W D x y z) []) → EdV H' p' (ifOk (setE W Q D P x y z) P []) →
      K (.tup [.agg [.int .i64 (ifOk (setE W Q D P x y z) W 0), .int .i64 (ifOk (setE W Q D P x y z) Q 0), d', p'], .int .i64 (setE W Q D P x y z)]) H') :
    VCall tbl lim 7 [.agg [.int .i64 W, .int .i64 Q, d, p], .int .i64 x, .int .i64 y, .int .i64 z] H K := by
  refine flow_Set hd hp hW hQ hz hl hlim (fun hb H' x1 => ?_) fun hg H' d' p' x1 o1 o2 o3 => ?_
  · have := hK H' .snil .snil x1 (by rw [ifOk, if_neg hb]; exact .nil) (by rw [ifOk, if_neg hb]; exact ⟨.nil, fun a h => by cases h⟩)
    simpa [ifOk, hb] using this
  · have := hK H' d' p' x1 (by rw [ifOk, if_pos hg]; exact o1) (by rw [ifOk, if_pos hg]; exact o2)
    simpa [ifOk, hg] using this
theorem ref_SetU (hd : SlV H d D) (hp : EdV H p P) (hW : I64 W) (hQ : I64 Q) (hz : I64 z) (hl : D.length ≤ 1000 ∧ P.length ≤ 1000) (hlim : lim ≤ H.length)
    (hK : ∀ H' d' p', HX H H' → SlV H' d' (ifOk (setE W Q D P x y z) (setL W D x y z) []) → EdV H' p' (ifOk (setE W Q D P x y z) P []) →
      K (.tup [.agg [.int .i64 (ifOk (setE W Q D P x y z) W 0), .int .i64 (ifOk (setE W Q D P x y z) Q 0), d', p'], .int .i64 (setE W Q D P x y z)]) H') :
    VCall tbl lim 8 [.agg [.int .i64 W, .int .i64 Q, d, p], .int .i64 x, .int .i64 y, .int .i64 z] H K := by
  refine ref_Set hd hp hW hQ hz hl hlim (fun hb H' x1 => ?_) fun hg H' d' p' x1 o1 o2 => ?_
  · have := hK H' .snil .snil x1 (by rw [ifOk, if_neg hb]; exact .nil) (by rw [ifOk, if_neg hb]; exact ⟨.nil, fun a h => by cases h⟩)
    simpa [ifOk, hb] using this
  · have := hK H' d' p' x1 (by rw [ifOk, if_pos hg]; exact o1) (by rw [ifOk, if_pos hg]; exact o2)
    simpa [ifOk, hg] using this
theorem flow_PartU {e : Ed} (hd : SlV H d D) (hp : EdV H p P) (hW : I64 W) (hQ : I64 Q) (he : e.in64) (hl : D.length ≤ 900 ∧ P.length ≤ 900) (hlim : lim ≤ H.length)
    (hK : ∀ H' d' p', HX H H' → SlV H' d' (ifOk (partE W Q D P e) D []) → EdV H' p' (ifOk (partE W Q D P e) (partL P e) []) →
      K (.tup [.agg [.int .i64 (ifOk (partE W Q D P e) W 0), .int .i64 (ifOk (partE W Q D P e) Q 0), d', p'], .int .i64 (partE W Q D P e)]) H') :
    VCall tbl lim 9 [.agg [.int .i64 W, .int .i64 Q, d, p], .agg [.int .i64 e.x, .int .i64 e.y, .int .i64 e.u]] H K := by
  refine flow_Part hd hp hW hQ he hl hlim (fun hb H' x1 => ?_) fun hg H' d' p' x1 o1 o2 => ?_
  · have := hK H' .snil .snil x1 (by rw [ifOk, if_neg hb]; exact .nil) (by rw [ifOk, if_neg hb]; exact ⟨.nil, fun a h => by cases h⟩)
    simpa [ifOk, hb] using this
  · have := hK H' d' p' x1 (by rw [ifOk, if_pos hg]; exact o1) (by rw [ifOk, if_pos hg]; exact o2)
    simpa [ifOk, hg] using this
theorem ref_PartU {e : Ed} (hd : SlV H d D) (hp : EdV H p P) (hW : I64 W) (hQ : I64 Q) (he : e.in64) (hl : D.length ≤ 900 ∧ P.length ≤ 900) (hlim : lim ≤ H.length)
    (hK : ∀ H' d' p', HX H H' → SlV H' d' (ifOk (partE W Q D P e) D []) → EdV H' p' (ifOk (partE W Q D P e) (partL P e) []) →
      K (.tup [.agg [.int .i64 (ifOk (partE W Q D P e) W 0), .int .i64 (ifOk (partE W Q D P e) Q 0), d', p'], .int .i64 (partE W Q D P e)]) H') :
    VCall tbl lim 10 [.agg [.int .i64 W, .int .i64 Q, d, p], .agg [.int .i64 e.x, .int .i64 e.y, .int .i64 e.u]] H K := by
  refine ref_Part hd hp hW hQ he hl hlim (fun hb H' x1 => ?_) fun hg H' d' p' x1 o1 o2 => ?_
  · have := hK H' .snil .snil x1 (by rw [ifOk, if_neg hb]; exact .nil) (by rw [ifOk, if_neg hb]; exact ⟨.nil, fun a h => by cases h⟩)
    simpa [ifOk, hb] using this
  · have := hK H' d' p' x1 (by rw [ifOk, if_pos hg]; exact o1) (by rw [ifOk, if_pos hg]; exact o2)
    simpa [ifOk, hg] using this
theorem part_back {e : Ed} (h : partE W Q D P e = 0) : partE W Q D (partL P e) e = 0 ∧ partL (partL P e) e = P := by
  unfold partE at h
  by_cases h0 : validP W Q D P ≠ 0
  · rw [if_pos h0] at h; exact absurd h h0
  rw [if_neg h0] at h
  by_cases hb : isEB W Q e.x e.y e.u = false
  · rw [if_pos hb] at h; cases h
  rw [if_neg hb] at h
  obtain ⟨w, q, rfl, rfl, hf⟩ := valid_pre (by simpa using h0)
  have h2 := partL_two (e := e) hf.pw
  refine ⟨?_, h2⟩
  unfold partE
  rw [if_neg (by rw [h]; simp), if_neg hb, h2]
  simpa using h0
theorem ifI {e a : Int} (h : I64 a) : I64 (ifOk e a 0) := by
  unfold ifOk; split
  · exact h
  · exact ⟨by decide, by decide⟩
theorem lawE {ws : List V} {f : Fld} (hv : FldV H ws f) (hlim : lim ≤ H.length) {e : Ed} (hx : I64 x) (hy : I64 y) (hz : I64 z) (hex : I64 e.x) (hey : I64 e.y) (heu : I64 e.u) (hK : ∀ H', K (.bool true) H') :
    VCall tbl lim 3 [.agg ws, .agg [.int .i64 x, .int .i64 y, .int .i64 z], .agg [.int .i64 e.x, .int .i64 e.y, .int .i64 e.u]] H K := by
  have he : e.in64 := ⟨hex, hey, heu⟩
  cases hv with
  | mk hW hQ hd hp hD =>
    rename_i d p W Q D P
    refine VCall_fn tbl_at3 rfl ?_
    simp [vf3, hd.stor, hp.stor]
    refine fl_Long hd hp ?_
    simp only [Bool.decide_or]
    refine cond_bool (fun h => ?_) fun h => ?_
    · simp
      refine fl_known hlim fun H1 _ => ?_
      simp; exact hK _
    have h : ¬ (400 < D.length ∨ 200 < P.length) := by simpa using h
    simp [hd.stor, hp.stor]
    refine ref_Copy hd hp ⟨by omega, by omega⟩ hlim fun H1 d0 p0 x1 a1 a2 => ?_
    replace x1 : HX H H1 := x1
    have l1 := x1.len
    simp [a1.stor, a2.stor]
    refine flow_SetU a1 a2 hW hQ hz ⟨by omega, by omega⟩ (by omega) fun H2 d1 p1 x2 b1 b2 => ?_
    replace x2 : HX H1 H2 := x2
    have l2 := x2.len
    simp [b1.sl.stor, b2.stor, hd.stor, hp.stor]
    refine ref_SetU (hd.mono (x1.trans x2)) (hp.mono (x1.trans x2)) hW hQ hz ⟨by omega, by omega⟩ (by omega) fun H3 d2 p2 x3 c1 c2 => ?_
    replace x3 : HX H2 H3 := x3
    have l3 := x3.len
    simp [c1.stor, c2.stor, a1.stor, a2.stor]
    refine flow_PartU (a1.mono (x2.trans x3)) (a2.mono (x2.trans x3)) hW hQ he ⟨by omega, by omega⟩ (by omega) fun H4 d3 p3 x4 g1 g2 => ?_
    replace x4 : HX H3 H4 := x4
    have l4 := x4.len
    simp [g1.stor, g2.stor, hd.stor, hp.stor]
    have xa : HX H H4 := ((x1.trans x2).trans x3).trans x4
    refine ref_PartU (hd.mono xa) (hp.mono xa) hW hQ he ⟨by omega, by omega⟩ (by omega) fun H5 d4 p4 x5 k1 k2 => ?_
    replace x5 : HX H4 H5 := x5
    have l5 := x5.len
    have hsl : (setL W D x y z).length = D.length := by simp [setL]
    have hpl := partL_len (P := P) (e := e)
    generalize hs : setE W Q D P x y z = s at b1 b2 c1 c2
    have sW : I64 (ifOk s W 0) := ifI hW
    have s1 : (ifOk s (setL W D x y z) []).length ≤ 400 := by
      unfold ifOk
      split
      · omega
      · exact Nat.zero_le _
    have s2 : (ifOk s P []).length ≤ 200 := by
      unfold ifOk
      split
      · omega
      · exact Nat.zero_le _
    generalize hsD : ifOk s (setL W D x y z) [] = sD at b1 c1 s1
    generalize hsP : ifOk s P [] = sP at b2 c2 s2
    have b1' := (b1.mono ((x3.trans x4).trans x5)).sl
    have b2' := b2.mono ((x3.trans x4).trans x5)
    have c1' := c1.mono (x4.trans x5)
    have c2' := c2.mono (x4.trans x5)
    simp [k1.stor, k2.stor, b1'.stor, b2'.stor, c1'.stor, c2'.stor]
    refine ref_Same b1' b2' c1' c2' ⟨by omega, by omega⟩ ?_
    simp [g1.stor, g2.stor, k1.stor, k2.stor]
    have t1 : (ifOk (partE W Q D P e) D []).length ≤ 400 := by
      unfold ifOk
      split
      · omega
      · exact Nat.zero_le _
    have t2 : (ifOk (partE W Q D P e) (partL P e) []).length ≤ 201 := by
      unfold ifOk
      split
      · omega
      · exact Nat.zero_le _
    have g1' := g1.mono x5
    have g2' := g2.mono x5
    refine ref_Same g1' g2' k1 k2 ⟨by omega, by omega⟩ ?_
    simp
    by_cases hp0 : partE W Q D P e = 0
    · obtain ⟨r1, r2⟩ := part_back hp0
      simp only [ifOk_pos hp0] at g1' g2' t1 t2 ⊢
      try simp [g1'.stor, g2'.stor]
      refine flow_PartU g1' g2' hW hQ he ⟨by omega, by omega⟩ (by omega) fun H7 d5 p5 x7 m1 m2 => ?_
      replace x7 : HX H5 H7 := x7
      rw [r1]
      rw [r1, r2] at m2
      rw [r1] at m1
      simp only [ifOk_pos (Eq.refl (0 : Int))] at m1 m2 ⊢
      have d7 := hd.mono ((xa.trans x5).trans x7)
      have p7 := hp.mono ((xa.trans x5).trans x7)
      simp [m1.stor, m2.stor, hd.stor, hp.stor, hp0]
      refine ref_Same m1 m2 d7 p7 ⟨by omega, by omega⟩ ?_
      simp [b1.sl.stor, b1'.len, b1'.stor]
      -- the list of the other field is written over
      have y6 : HX H1 H7 := (((x2.trans x3).trans x4).trans x5).trans x7
      have l7 := y6.len
      have l7' := x7.len
      have b7 : OwnV H1.length H7 d1 sD := b1.mono (((x3.trans x4).trans x5).trans x7)
      refine wLoop_up sD.length (fun i fr L H' => ∃ l : List Int, (fr 3 = .lp 0 0 ∧ fr 7 = .lp 3 0 ∧ fr 8 = .lp 4 0 ∧ fr 18 = .bool true ∧ fr 19 = .int .i64 i) ∧ L[0]? = some [.int .i64 W, .int .i64 Q, d, p] ∧ L[3]? = some [.int .i64 W, .int .i64 Q, d0, p0] ∧ L[4]? = some [.int .i64 (ifOk s W 0), .int .i64 (ifOk s Q 0), d1, p1] ∧ HX H1 H' ∧ OwnV H1.length H' d1 l ∧ l.length = sD.length) ⟨sD, by simp, by simp, by simp, by simp, y6, b7, rfl⟩ ?_
      rintro i hi fr L H8 ⟨l, ⟨f3, f7, f8, f18, f19⟩, q0, q3, q4, y8, ho, hl8⟩
      have l8 := y8.len
      have hll := ho.sl.len
      rw [hl8] at hll
      simp [f3, f7, f8, f18, f19, q0, q3, q4, hll, ho.sl.stor]
      refine cond_dec (fun ht => ?_) fun hfl => ?_
      · have ht : i < sD.length := by omega
        have hst := fun L => ho.store (lim := lim) (i := i) (x := 9) (L := L) ⟨by omega, by omega⟩
        simp (disch := omega) [f3, f7, f8, f18, f19, q0, q3, q4, ho.sl.addr, hst, wrap_i64, -vstore]
        exact ⟨by omega, setH_X y8 ho (Nat.le_refl _), l.set i 9, ho.put (by simp), by simp [hl8]⟩
      · have a1' := a1.mono y8
        have a2' := a2.mono y8
        have d8 := hd.mono (x1.trans y8)
        have p8 := hp.mono (x1.trans y8)
        simp [f3, f7, f8, f18, f19, q0, q3, q4, a1'.stor, a2'.stor, hd.stor, hp.stor]
        refine ref_Same a1' a2' d8 p8 ⟨by omega, by omega⟩ ?_
        simp
        refine fl_known (by omega) fun H9 x9 => ?_
        simp
        exact hK _
    · simp only [ifOk_neg hp0] at g1' g2' t1 t2 ⊢
      try simp [g1'.stor, g2'.stor]
      refine flow_PartU g1' g2' ⟨by decide, by decide⟩ ⟨by decide, by decide⟩ he ⟨by simp, by simp⟩ (by omega) fun H7 d5 p5 x7 m1 m2 => ?_
      replace x7 : HX H5 H7 := x7
      have hdn : decide (partE W Q D P e = 0) = false := decide_eq_false hp0
      simp [m1.stor, m2.stor, hd.stor, hp.stor, hp0, hdn, b1.sl.stor]
      -- the list of the other field is written over
      have y6 : HX H1 H7 := (((x2.trans x3).trans x4).trans x5).trans x7
      have l7 := y6.len
      have l7' := x7.len
      have b7 : OwnV H1.length H7 d1 sD := b1.mono (((x3.trans x4).trans x5).trans x7)
      refine wLoop_up sD.length (fun i fr L H' => ∃ l : List Int, (fr 3 = .lp 0 0 ∧ fr 7 = .lp 3 0 ∧ fr 8 = .lp 4 0 ∧ fr 18 = .bool true ∧ fr 19 = .int .i64 i) ∧ L[0]? = some [.int .i64 W, .int .i64 Q, d, p] ∧ L[3]? = some [.int .i64 W, .int .i64 Q, d0, p0] ∧ L[4]? = some [.int .i64 (ifOk s W 0), .int .i64 (ifOk s Q 0), d1, p1] ∧ HX H1 H' ∧ OwnV H1.length H' d1 l ∧ l.length = sD.length) ⟨sD, by simp, by simp, by simp, by simp, y6, b7, rfl⟩ ?_
      rintro i hi fr L H8 ⟨l, ⟨f3, f7, f8, f18, f19⟩, q0, q3, q4, y8, ho, hl8⟩
      have l8 := y8.len
      have hll := ho.sl.len
      rw [hl8] at hll
      simp [f3, f7, f8, f18, f19, q0, q3, q4, hll, ho.sl.stor]
      refine cond_dec (fun ht => ?_) fun hfl => ?_
      · have ht : i < sD.length := by omega
        have hst := fun L => ho.store (lim := lim) (i := i) (x := 9) (L := L) ⟨by omega, by omega⟩
        simp (disch := omega) [f3, f7, f8, f18, f19, q0, q3, q4, ho.sl.addr, hst, wrap_i64, -vstore]
        exact ⟨by omega, setH_X y8 ho (Nat.le_refl _), l.set i 9, ho.put (by simp), by simp [hl8]⟩
      · have a1' := a1.mono y8
        have a2' := a2.mono y8
        have d8 := hd.mono (x1.trans y8)
        have p8 := hp.mono (x1.trans y8)
        simp [f3, f7, f8, f18, f19, q0, q3, q4, a1'.stor, a2'.stor, hd.stor, hp.stor]
        refine ref_Same a1' a2' d8 p8 ⟨by omega, by omega⟩ ?_
        simp
        refine fl_known (by omega) fun H9 x9 => ?_
        simp
        exact hK _
theorem law_FlowSets {ws : List V} {f : Fld} (hv : FldV H ws f) (hlim : lim ≤ H.length) {a b c : Int} (hx : I64 x) (hy : I64 y) (hz : I64 z) (ha : I64 a) (hb : I64 b) (hc : I64 c) (hK : ∀ H', K (.bool true) H') :
    VCall tbl lim 3 [.agg ws, .agg [.int .i64 x, .int .i64 y, .int .i64 z], .agg [.int .i64 a, .int .i64 b, .int .i64 c]] H K :=
  lawE (e := ⟨a, b, c⟩) hv hlim hx hy hz ha hb hc hK
end
end Go.Proofs.Ytnfhccioglpjhaa.Vm
