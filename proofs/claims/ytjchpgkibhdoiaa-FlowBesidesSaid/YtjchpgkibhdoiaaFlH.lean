/- Fields of directions over the machine: steepness, turned directions; FlowSteeps. -/
import Derived.Test.YtjchpgkibhdoiaaFlF
namespace Go.Proofs.Ytjchpgkibhdoiaa.Vm
open Go
set_option maxRecDepth 100000
set_option linter.unusedSimpArgs false
set_option linter.unusedVariables false
attribute [-simp] List.getD_eq_getElem?_getD

def smax (w : Nat) (D : List Int) (P : List Ed) (l : List Ed) : Nat → Int
  | 0 => 0
  | i + 1 => max (max (smax w D P l i) (tnP w D P (l.getD i default).x (l.getD i default).y (l.getD i default).u)) (-(tnP w D P (l.getD i default).x (l.getD i default).y (l.getD i default).u))
theorem smax_bd {w : Nat} {D : List Int} {P : List Ed} {l : List Ed} : ∀ i, 0 ≤ smax w D P l i ∧ smax w D P l i ≤ 4
  | 0 => by simp [smax]
  | i + 1 => by
    have := smax_bd (w := w) (D := D) (P := P) (l := l) i
    have := tnP_bd (w := w) (D := D) (P := P) (x := (l.getD i default).x) (y := (l.getD i default).y) (u := (l.getD i default).u)
    simp only [smax]; omega
def steepP (W Q : Int) (D : List Int) (P : List Ed) : Int × Int := if validP W Q D P = 0 then (smax W.toNat D P (edL W.toNat Q.toNat W.toNat) (edL W.toNat Q.toNat W.toNat).length, 0) else (0, validP W Q D P)
/-- no edge of a valid field turns by a half -/
theorem sharp_no {w q : Nat} {D : List Int} {P : List Ed} (hf : PreF w q D P) (h : validP w q D P = 0) : ∀ i, i < (edL w q w).length → tnP w D P ((edL w q w).getD i default).x ((edL w q w).getD i default).y ((edL w q w).getD i default).u ≠ 4 := by
  have h0 : ¬ ((w : Int) < 1 ∨ 12 < (w : Int) ∨ (q : Int) < 1 ∨ 12 < (q : Int) ∨ (D.length : Int) ≠ (w : Int) * q) := by
    have := hf.w1; have := hf.q1; have := hf.dl; omega
  rw [validP_2 h0] at h
  simp only [Int.toNat_natCast] at h
  intro i hi e
  have hs := allN_not (f := shOk w D P (edL w q w)) hi (by simp [shOk, e])
  rw [if_pos hs] at h
  repeat' (split at h)
  all_goals omega
theorem smax_3 {w q : Nat} {D : List Int} {P : List Ed} (hf : PreF w q D P) (h : validP w q D P = 0) : ∀ i, i ≤ (edL w q w).length → smax w D P (edL w q w) i ≤ 3
  | 0, _ => by simp [smax]
  | i + 1, hi => by
    have a := smax_3 hf h i (by omega)
    have b := sharp_no hf h i (by omega)
    have := tnP_bd (w := w) (D := D) (P := P) (x := ((edL w q w).getD i default).x) (y := ((edL w q w).getD i default).y) (u := ((edL w q w).getD i default).u)
    simp only [smax]; omega
def spinL (D : List Int) (k : Int) : List Int := D.map fun d => (d + k.tmod 8) % 8
theorem spin_getD {D : List Int} {k : Int} {i : Nat} (h : i < D.length) : (spinL D k).getD i 0 = (D.getD i 0 + k.tmod 8) % 8 := by
  simp [spinL, List.getD_eq_getElem?_getD, h]
theorem spin_tn {w q : Nat} {D : List Int} {P : List Ed} (hf : PreF w q D P) {x y u k : Int} (he : isEB w q x y u = true) : tnP w (spinL D k) P x y u = tnP w D P x y u := by
  have hx := hf.idx he
  have hu := isEB_u he
  have e1 := spin_getD (D := D) (k := k) (i := (y * w + x).toNat) (by omega)
  have e2 : (spinL D k).getD (if u = 1 then y * w + x + w else y * w + x + 1).toNat 0 = (D.getD (if u = 1 then y * w + x + w else y * w + x + 1).toNat 0 + k.tmod 8) % 8 := by
    apply spin_getD
    have := hf.w1
    split <;> omega
  simp only [tnP, dlt, nrm, e1, e2]
  omega
theorem spin_valid {w q : Nat} {D : List Int} {P : List Ed} (hf : PreF w q D P) (h : validP w q D P = 0) {k : Int} : validP w q (spinL D k) P = 0 := by
  have h0 : ¬ ((w : Int) < 1 ∨ 12 < (w : Int) ∨ (q : Int) < 1 ∨ 12 < (q : Int) ∨ (D.length : Int) ≠ (w : Int) * q) := by
    have := hf.w1; have := hf.q1; have := hf.dl; omega
  have hl : (spinL D k).length = D.length := by simp [spinL]
  rw [validP_2 h0] at h
  rw [validP_2 (by rw [hl]; exact h0), hl]
  have d1 : allN (dOk (spinL D k)) D.length = true := by
    rw [allN_congr (g := fun _ => true) fun i hi => by simp only [dOk, spin_getD hi, decide_eq_true_eq]; omega]
    have : ∀ n, allN (fun _ => true) n = true := by
      intro n
      induction n with
      | zero => rfl
      | succ n ih => simp [allN, ih]
    exact this _
  simp only [Int.toNat_natCast] at h ⊢
  have e : allN (shOk w (spinL D k) P (edL w q w)) (edL w q w).length = allN (shOk w D P (edL w q w)) (edL w q w).length := by
    refine allN_congr fun i hi => ?_
    simp only [shOk]
    rw [spin_tn hf (edL_at hi)]
  simp only [e, d1, Bool.true_eq_false, if_false]
  by_cases g : allN (dOk D) D.length = true
  · simp only [g, Bool.true_eq_false, if_false] at h; exact h
  · simp [g] at h
theorem spin_smax {w q : Nat} {D : List Int} {P : List Ed} (hf : PreF w q D P) {k : Int} : ∀ i, i ≤ (edL w q w).length → smax w (spinL D k) P (edL w q w) i = smax w D P (edL w q w) i
  | 0, _ => rfl
  | i + 1, hi => by simp only [smax]; rw [spin_smax hf i (by omega), spin_tn hf (edL_at (by omega))]

section
variable {lim : Nat} {H : Hp} {K : V → Hp → Prop} {v d p : V} {D : List Int} {P : List Ed} {W Q x y u k : Int} {w q : Nat}
theorem flow_Steep (hd : SlV H d D) (hp : EdV H p P) (hW : I64 W) (hQ : I64 Q) (hl : D.length ≤ 1000 ∧ P.length ≤ 1000) (hlim : lim ≤ H.length) (hK : ∀ H', HX H H' → K (.tup [.int .i64 (steepP W Q D P).1, .int .i64 (steepP W Q D P).2]) H') : VCall tbl lim 34 [.agg [.int .i64 W, .int .i64 Q, d, p]] H K := by
  refine VCall_fn tbl_at34 rfl ?_
  simp [vf34, hd.stor, hp.stor]
  refine flow_Validate hd hp hW hQ hl hlim fun H1 x1 => ?_
  replace x1 : HX H H1 := x1
  have l1 := x1.len
  simp
  refine cond_ndec (fun h => ?_) fun h => ?_
  · simp
    simpa [steepP, h] using hK _ x1
  obtain ⟨w, q, rfl, rfl, hf⟩ := valid_pre h
  have hK : ∀ H', HX H H' → K (.tup [.int .i64 (smax w D P (edL w q w) (edL w q w).length), .int .i64 0]) H' := by
    intro H' hx; simpa [steepP, h] using hK H' hx
  simp [hd.stor, hp.stor]
  refine flow_edges hd.stor hp.stor hf.w1 hf.q1 (by omega) fun H2 lv x2 hlv => ?_
  replace x2 : HX H1 H2 := x2
  have hev := hlv.edv hf.w1 hf.q1
  have hel := edL_len (w := w) hf.q1.2 w
  have hw1 := hf.w1
  have hd2 := hd.mono (x1.trans x2)
  have hp2 := hp.mono (x1.trans x2)
  simp [hev.len]
  refine wLoop_up (edL w q w).length (fun i fr L H' => ∃ X, (fr 1 = .lp 0 0 ∧ fr 5 = .int .i64 (smax w D P (edL w q w) i) ∧ fr 15 = lv ∧ fr 16 = .int .i64 (edL w q w).length ∧ fr 17 = .int .i64 i) ∧ L = [.int .i64 w, .int .i64 q, d, p] :: X ∧ H' = H2) ⟨[], by simp [hev.len, smax], rfl, rfl⟩ ?_
  rintro i hi fr L H' ⟨X, ⟨f1, f5, f15, f16, f17⟩, rfl, e0⟩
  have e0 := e0.symm
  subst e0
  simp [f1, f5, f15, f16, f17]
  refine cond_dec (fun ht => ?_) fun hfl => ?_
  · have ht : i < (edL w q w).length := by omega
    simp (disch := omega) [f1, f5, f15, f16, f17, hev.addr, hev.load, lastO, lastS, hd.stor, hp.stor]
    refine flow_turning hd2 hp2 hf (edL_at ht) ?_
    have b1 := smax_bd (w := w) (D := D) (P := P) (l := edL w q w) i
    have b2 := tnP_bd (w := w) (D := D) (P := P) (x := ((edL w q w).getD i default).x) (y := ((edL w q w).getD i default).y) (u := ((edL w q w).getD i default).u)
    simp (disch := omega) [f1, f5, f15, f16, f17, wrap_i64, vun_neg, smax]
    omega
  · have : i = (edL w q w).length := by omega
    subst this
    simp [f5]
    exact hK _ (x1.trans x2)
theorem ref_Steep (hd : SlV H d D) (hp : EdV H p P) (hW : I64 W) (hQ : I64 Q) (hl : D.length ≤ 1000 ∧ P.length ≤ 1000) (hlim : lim ≤ H.length) (hK : ∀ H', HX H H' → K (.tup [.int .i64 (steepP W Q D P).1, .int .i64 (steepP W Q D P).2]) H') : VCall tbl lim 35 [.agg [.int .i64 W, .int .i64 Q, d, p]] H K := by
  refine VCall_fn tbl_at35 rfl ?_
  simp [vf35, hd.stor, hp.stor]
  refine ref_Validate hd hp hW hQ hl hlim fun H1 x1 => ?_
  replace x1 : HX H H1 := x1
  have l1 := x1.len
  simp
  refine cond_ndec (fun h => ?_) fun h => ?_
  · simp
    simpa [steepP, h] using hK _ x1
  obtain ⟨w, q, rfl, rfl, hf⟩ := valid_pre h
  have hK : ∀ H', HX H H' → K (.tup [.int .i64 (smax w D P (edL w q w) (edL w q w).length), .int .i64 0]) H' := by
    intro H' hx; simpa [steepP, h] using hK H' hx
  simp [hd.stor, hp.stor]
  refine ref_edges hd.stor hp.stor hf.w1 hf.q1 (by omega) fun H2 lv x2 hlv => ?_
  replace x2 : HX H1 H2 := x2
  have hev := hlv.edv hf.w1 hf.q1
  have hel := edL_len (w := w) hf.q1.2 w
  have hw1 := hf.w1
  have hd2 := hd.mono (x1.trans x2)
  have hp2 := hp.mono (x1.trans x2)
  simp
  refine wLoop_up (edL w q w).length (fun i fr L H' => (fr 1 = .lp 0 0 ∧ fr 5 = .int .i64 (smax w D P (edL w q w) i) ∧ fr 6 = lv ∧ fr 7 = .int .i64 i) ∧ L = [[.int .i64 w, .int .i64 q, d, p]] ∧ H' = H2) ⟨by simp [smax], rfl, rfl⟩ ?_
  rintro i hi fr L H' ⟨⟨f1, f5, f6, f7⟩, rfl, e0⟩
  have e0 := e0.symm
  subst e0
  simp [f1, f5, f6, f7, hev.len]
  refine cond_dec (fun ht => ?_) fun hfl => ?_
  · have ht : i < (edL w q w).length := by omega
    simp (disch := omega) [f1, f5, f6, f7, hev.addr, hev.load, hd.stor, hp.stor]
    refine ref_turning hd2 hp2 hf (edL_at ht) ?_
    have b1 := smax_bd (w := w) (D := D) (P := P) (l := edL w q w) i
    have b2 := tnP_bd (w := w) (D := D) (P := P) (x := ((edL w q w).getD i default).x) (y := ((edL w q w).getD i default).y) (u := ((edL w q w).getD i default).u)
    simp (disch := omega) [f1, f5, f6, f7, wrap_i64, vun_neg, smax]
    omega
  · have : i = (edL w q w).length := by omega
    subst this
    simp [f5]
    exact hK _ (x1.trans x2)
theorem vapp_e {y : V} {l : List Int} (hy : SlV H y l) (hlim : lim ≤ H.length) (hl : l.length ≤ 1000) : ∃ v' H', vappend lim 1 8 (H ++ [.row [] true]) (.sl H.length 0 0 1) y = some (v', H') ∧ OwnV H.length H' v' l ∧ HX H H' := by
  have hy2 := hy.mono (H' := H ++ [.row [] true]) HX.push
  refine ⟨.sl (H.length + 1) 0 l.length 1, (H ++ [Blk.row [] true]).set H.length .dead ++ [.row (ints l) true], ?_, .row (by omega) ?_, ?_⟩
  · simp [vappend, hy2.cells, hy2.len, hlim, show l.length * 8 ≤ 140737488355328 by omega, show l.length < 4611686018427387904 by omega]
  · have : H.length + 1 = ((H ++ [Blk.row [] true]).set H.length .dead).length := by simp
    rw [this]; exact List.getElem?_concat_length
  · refine HX.of (by simp <;> omega) fun i hi => ?_
    rw [List.getElem?_append_left (by simp; omega), List.getElem?_set_ne (by omega), List.getElem?_append_left hi]
theorem vapp_t {α : Type} {k : Nat} {c : Cod α k} {y : V} {l : List α} {bytes : Nat} (hy : LstV c H y l) (hlim : lim ≤ H.length) (hl : l.length ≤ 1000) (hb : bytes ≤ 1000) : ∃ v' H', vappend lim k bytes (H ++ [.row [] true]) (.sl H.length 0 0 k) y = some (v', H') ∧ OwnT H.length c H' v' l ∧ HX H H' := by
  have hy2 := hy.mono (H' := H ++ [.row [] true]) HX.push
  have hm : l.length * bytes ≤ 1000 * 1000 := Nat.mul_le_mul hl hb
  refine ⟨.sl (H.length + 1) 0 l.length k, (H ++ [Blk.row [] true]).set H.length .dead ++ [.row (c.all l) true], ?_, .row (by omega) ?_, ?_⟩
  · simp [vappend, hy2.cells, hy2.len, hlim, show l.length * bytes ≤ 140737488355328 by omega, show l.length < 4611686018427387904 by omega]
  · have : H.length + 1 = ((H ++ [Blk.row [] true]).set H.length .dead).length := by simp
    rw [this]; exact List.getElem?_concat_length
  · refine HX.of (by simp <;> omega) fun i hi => ?_
    rw [List.getElem?_append_left (by simp; omega), List.getElem?_set_ne (by omega), List.getElem?_append_left hi]
theorem clone_ints {l : List Int} (hv : SlV H v l) (hlim : lim ≤ H.length) (hl : l.length ≤ 1000) (hK : ∀ H' v', HX H H' → OwnV H.length H' v' l → K v' H') : VCall tbl lim 72 [v] H K := by
  refine VCall_fn tbl_at72 rfl ?_
  obtain ⟨v', H', a1, a2, a3⟩ := vapp_e (lim := lim) hv hlim hl
  cases hv with
  | nil =>
    simp [vf72]
    exact hK _ _ .refl .nil
  | empty =>
    simp [vf72, a1, a2.sl.stor]
    exact hK _ _ a3 a2
  | sl h1 h2 h3 =>
    simp [vf72, a1, a2.sl.stor]
    exact hK _ _ a3 a2
theorem clone_eds {l : List Ed} (hv : LstV edC H v l) (hlim : lim ≤ H.length) (hl : l.length ≤ 1000) (hK : ∀ H' v', HX H H' → OwnT H.length edC H' v' l → K v' H') : VCall tbl lim 67 [v] H K := by
  refine VCall_fn tbl_at67 rfl ?_
  obtain ⟨v', H', a1, a2, a3⟩ := vapp_t (lim := lim) (bytes := 24) hv hlim hl (by omega)
  cases hv with
  | nil =>
    simp [vf67]
    exact hK _ _ .refl .nil
  | empty =>
    simp [vf67, a1, a2.lst.stor]
    exact hK _ _ a3 a2
  | sl h1 h2 h3 =>
    simp [vf67, a1, a2.lst.stor]
    exact hK _ _ a3 a2
theorem flow_clone (hd : SlV H d D) (hp : EdV H p P) (hlim : lim ≤ H.length) (hl : D.length ≤ 1000 ∧ P.length ≤ 1000) (hK : ∀ H1 H' d' p', HX H H1 → HX H1 H' → OwnV H.length H1 d' D → OwnV H.length H' d' D → OwnT H1.length edC H' p' P → K (.agg [.int .i64 W, .int .i64 Q, d', p']) H') : VCall tbl lim 58 [.agg [.int .i64 W, .int .i64 Q, d, p]] H K := by
  refine VCall_fn tbl_at58 rfl ?_
  simp [vf58, hd.stor, hp.stor]
  refine clone_ints hd hlim hl.1 fun H1 d' x1 o1 => ?_
  replace x1 : HX H H1 := x1
  have l1 := x1.len
  simp [o1.sl.stor, o1.sl.one, hp.stor]
  refine clone_eds (hp.lst.mono x1) (by omega) hl.2 fun H2 p' x2 o2 => ?_
  simp [o1.sl.stor, o1.sl.one, o2.lst.stor, o2.lst.one]
  exact hK _ _ _ _ x1 x2 o1 (o1.mono x2) o2
theorem flow_checked (hd : SlV H d D) (hp : EdV H p P) (hW : I64 W) (hQ : I64 Q) (hl : D.length ≤ 1000 ∧ P.length ≤ 1000) (hlim : lim ≤ H.length) (hv : validP W Q D P = 0) (hK : ∀ H', HX H H' → K (.tup [.agg [.int .i64 W, .int .i64 Q, d, p], .int .i64 0]) H') : VCall tbl lim 59 [.agg [.int .i64 W, .int .i64 Q, d, p]] H K := by
  refine VCall_fn tbl_at59 rfl ?_
  simp [vf59, hd.stor, hp.stor]
  refine flow_Validate hd hp hW hQ hl hlim fun H1 x1 => ?_
  simp [hv, hd.stor, hp.stor]
  exact hK _ x1
theorem flow_Spin (hd : SlV H d D) (hp : EdV H p P) (hW : I64 W) (hQ : I64 Q) (hk : I64 k) (hl : D.length ≤ 1000 ∧ P.length ≤ 1000) (hlim : lim ≤ H.length)
    (hbad : validP W Q D P ≠ 0 → ∀ H', HX H H' → K (.tup [.agg [.int .i64 0, .int .i64 0, .snil, .snil], .int .i64 (validP W Q D P)]) H')
    (hK : validP W Q D P = 0 → ∀ H' d' p', HX H H' → SlV H' d' (spinL D k) → EdV H' p' P → K (.tup [.agg [.int .i64 W, .int .i64 Q, d', p'], .int .i64 0]) H') : VCall tbl lim 36 [.agg [.int .i64 W, .int .i64 Q, d, p], .int .i64 k] H K := by
  refine VCall_fn tbl_at36 rfl ?_
  simp [vf36, hd.stor, hp.stor]
  refine flow_Validate hd hp hW hQ hl hlim fun H1 x1 => ?_
  replace x1 : HX H H1 := x1
  have l1 := x1.len
  simp
  refine cond_ndec (fun h => ?_) fun h => ?_
  · simp
    exact hbad h _ x1
  obtain ⟨w, q, rfl, rfl, hf⟩ := valid_pre h
  simp [hd.stor, hp.stor]
  refine flow_clone (hd.mono x1) (hp.mono x1) (by omega) hl fun H2 H3 d1 p1 x2 x3 o0 o1 o2 => ?_
  replace x3 : HX H2 H3 := x3
  have l2 := x2.len
  have l3 := x3.len
  have hb := o0.below
  simp [o1.sl.stor, o2.lst.stor, o1.sl.len]
  refine wLoop_up D.length (fun i fr L H' => ∃ l : List Int, (fr 1 = .int .i64 k ∧ fr 4 = .lp 1 0 ∧ fr 7 = .lp 2 0 ∧ fr 19 = d1 ∧ fr 20 = .int .i64 D.length ∧ fr 21 = .int .i64 i) ∧ L = [[.int .i64 w, .int .i64 q, d, p], [.int .i64 0, .int .i64 0, .snil, .snil], [.int .i64 w, .int .i64 q, d1, p1]] ∧ HX H1 H' ∧ OwnV H1.length H' d1 l ∧ OwnT H2.length edC H' p1 P ∧ l.length = D.length ∧
      ∀ j, j < D.length → l.getD j 0 = if j < i then (D.getD j 0 + k.tmod 8) % 8 else D.getD j 0) ⟨D, by simp [o1.sl.len], by simp, x2.trans x3, o1, o2, rfl, fun j hj => by simp⟩ ?_
  rintro i hi fr L H' ⟨l, ⟨f1, f4, f7, f19, f20, f21⟩, rfl, hx, ho, ht2, hll, hg⟩
  have hxl := hx.len
  simp [f1, f4, f7, f19, f20, f21]
  refine cond_dec (fun ht => ?_) fun hfl => ?_
  · have ht : i < D.length := by omega
    have gi := hg i ht
    rw [if_neg (by omega)] at gi
    have dd := hf.dd i
    have tk : -8 < k.tmod 8 ∧ k.tmod 8 < 8 := by
      have := Int.tmod_lt_of_pos k (b := 8) (by omega)
      have := Int.lt_tmod_of_pos k (b := 8) (by omega)
      omega
    simp (disch := omega) [f1, f4, f7, f19, f20, f21, ho.sl.addr, ho.sl.load, gi, wrap_i64]
    refine flow_eighth (by omega) ?_
    have hst := fun L => ho.store (lim := lim) (i := i) (x := (D.getD i 0 + k.tmod 8) % 8) (L := L) ⟨by omega, by omega⟩
    simp (disch := omega) [f1, f4, f7, f19, f20, f21, ho.sl.addr, hst, wrap_i64, -vstore]
    refine ⟨by omega, setH_X hx ho (Nat.le_refl _), _, ho.put (by simp), ht2.keep fun b hb2 => setH_oth ho hb (Or.inr hb2), by simp [hll], fun j hj => ?_⟩
    rw [getD_set (by omega)]
    by_cases e : j = i
    · subst e; simp
    · rw [if_neg e, hg j hj]
      by_cases h2 : j < i
      · rw [if_pos h2, if_pos (by omega)]
      · rw [if_neg h2, if_neg (by omega)]
  · have : i = D.length := by omega
    subst this
    have hle : l = spinL D k := by
      refine ext_getD (by simp [spinL, hll]) fun j hj => ?_
      rw [hg j (by omega), if_pos (by omega), spin_getD (by omega)]
    subst hle
    have hsl := ho.sl
    have hpl : EdV H' p1 P := ⟨ht2.lst, hp.all⟩
    simp [f4, f7, hsl.stor, hpl.stor]
    refine flow_checked hsl hpl hW hQ (by rw [hll]; exact hl) (by omega) (spin_valid hf h) fun H4 x4 => ?_
    replace x4 : HX H' H4 := x4
    simp [f4, hsl.stor, hpl.stor]
    exact hK h _ _ _ ((x1.trans hx).trans x4) (hsl.mono x4) (hpl.mono x4)
theorem law_FlowSteeps {ws : List V} {f : Fld} (hv : FldV H ws f) (hlim : lim ≤ H.length) (hk : I64 k) (hK : ∀ H', K (.bool true) H') : VCall tbl lim 9 [.agg ws, .int .i64 k] H K := by
  cases hv with
  | mk hW hQ hd hp hD =>
    rename_i d p W Q D P
    refine VCall_fn tbl_at9 rfl ?_
    simp [vf9, hd.stor, hp.stor]
    refine fl_Long hd hp ?_
    simp only [Bool.decide_or]
    refine cond_bool (fun h => ?_) fun h => ?_
    · simp
      refine fl_known hlim fun H1 _ => ?_
      simp; exact hK _
    have h : ¬ (400 < D.length ∨ 200 < P.length) := by simpa using h
    simp [hd.stor, hp.stor]
    refine flow_Steep hd hp hW hQ (by omega) hlim fun H1 x1 => ?_
    replace x1 : HX H H1 := x1
    have l1 := x1.len
    simp [hd.stor, hp.stor]
    refine ref_Steep (hd.mono x1) (hp.mono x1) hW hQ (by omega) (by omega) fun H2 x2 => ?_
    replace x2 : HX H1 H2 := x2
    have l2 := x2.len
    have x12 := x1.trans x2
    simp [hd.stor, hp.stor]
    refine flow_Spin (hd.mono x12) (hp.mono x12) hW hQ hk (by omega) (by omega) (fun hne H3 x3 => ?_) fun hval H3 d' p' x3 o1 o2 => ?_
    · replace x3 : HX H2 H3 := x3
      have l3 := x3.len
      have e1 : steepP W Q D P = (0, validP W Q D P) := by simp [steepP, hne]
      simp [e1, hne, splice]
      refine flow_Steep (D := []) (P := []) .nil ⟨.nil, by simp⟩ (by unfold I64; omega) (by unfold I64; omega) (by simp) (by omega) fun H4 x4 => ?_
      replace x4 : HX H3 H4 := x4
      have l4 := x4.len
      simp [hne]
      refine fl_known (by omega) fun H5 _ => ?_
      simp; exact hK _
    · replace x3 : HX H2 H3 := x3
      have l3 := x3.len
      simp [hval, o1.stor, o2.stor]
      refine flow_Steep o1 o2 hW hQ (by simp [spinL]; omega) (by omega) fun H4 x4 => ?_
      replace x4 : HX H3 H4 := x4
      have l4 := x4.len
      obtain ⟨w, q, rfl, rfl, hf⟩ := valid_pre hval
      have e1 : steepP w q D P = (smax w D P (edL w q w) (edL w q w).length, 0) := by simp [steepP, hval]
      have e2 : steepP w q (spinL D k) P = (smax w D P (edL w q w) (edL w q w).length, 0) := by
        simp [steepP, spin_valid hf hval, spin_smax hf _ (Nat.le_refl _)]
      have e3 := smax_3 hf hval _ (Nat.le_refl _)
      simp [e1, e2, e3]
      refine fl_known (by omega) fun H5 _ => ?_
      simp; exact hK _
end
end Go.Proofs.Ytjchpgkibhdoiaa.Vm
