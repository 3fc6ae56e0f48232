/- Fields of directions over the machine: indices, copies; FlowValidates, FlowTurns. -/
import Derived.Test.YtnfhccioglpjhaaFlE
namespace Go.Proofs.Ytnfhccioglpjhaa.Vm
open Go
set_option maxRecDepth 100000
set_option linter.unusedSimpArgs false
set_option linter.unusedVariables false
attribute [-simp] List.getD_eq_getElem?_getD

structure Fld where
  W : Int
  Q : Int
  D : List Int
  P : List Ed
/-- the cells of a field -/
inductive FldV (H : Hp) : List V → Fld → Prop
  | mk {d p : V} {W Q : Int} {D : List Int} {P : List Ed} : I64 W → I64 Q → SlV H d D → EdV H p P → (∀ x ∈ D, I64 x) → FldV H [.int .i64 W, .int .i64 Q, d, p] ⟨W, Q, D, P⟩
theorem eds_of {H : Hp} {v : V} {d : CD} (h : RepT H (.sl [cInt, cInt, cInt]) v d) : ∃ l, EdV H v l := by
  obtain ⟨l, h1, _, h3⟩ := lst_of (c := edC) rfl (fun z => z.in64) (fun vs ds h => by
    obtain ⟨v0, u0, _, _, rfl, _, p0, q0⟩ := reps_cons h
    obtain ⟨v1, u1, _, _, rfl, _, p1, q1⟩ := reps_cons q0
    obtain ⟨v2, u2, _, _, rfl, _, p2, q2⟩ := reps_cons q1
    have e := reps_nil q2
    subst e
    obtain ⟨n0, rfl, c0⟩ := int_of p0
    obtain ⟨n1, rfl, c1⟩ := int_of p1
    obtain ⟨n2, rfl, c2⟩ := int_of p2
    exact ⟨⟨n0, n1, n2⟩, rfl, c0, c1, c2⟩) h
  exact ⟨l, h1, h3⟩
theorem fld_of {H : Hp} {ws : List V} {ds : List CD} (h : RepTs H [cInt, cInt, cInts, .sl [cInt, cInt, cInt]] ws ds) : ∃ f, FldV H ws f := by
  obtain ⟨v0, u0, _, _, rfl, _, p0, q0⟩ := reps_cons h
  obtain ⟨v1, u1, _, _, rfl, _, p1, q1⟩ := reps_cons q0
  obtain ⟨v2, u2, _, _, rfl, _, p2, q2⟩ := reps_cons q1
  obtain ⟨v3, u3, _, _, rfl, _, p3, q3⟩ := reps_cons q2
  have e := reps_nil q3
  subst e
  obtain ⟨n0, rfl, c0⟩ := int_of p0
  obtain ⟨n1, rfl, c1⟩ := int_of p1
  obtain ⟨l2, c2, _, z2⟩ := ints_of p2
  obtain ⟨l3, c3⟩ := eds_of p3
  exact ⟨⟨n0, n1, l2, l3⟩, .mk c0 c1 c2 c3 z2⟩

theorem z4 : ints (zs 4) = [.int .i64 0, .int .i64 0, .int .i64 0, .int .i64 0] := Eq.trans rfl rfl
theorem g43 {a b c d : V} : [a, b, c, d].getD 3 dv = d := Eq.trans rfl rfl
theorem td4 {n : Int} (h1 : -100 ≤ n) (h2 : n ≤ 100) : -100 ≤ n.tdiv 4 ∧ n.tdiv 4 ≤ 100 := by
  by_cases h : 0 ≤ n
  · rw [Int.tdiv_eq_ediv_of_nonneg h]; omega
  · have e : n = -(-n) := by omega
    rw [e, Int.neg_tdiv, Int.tdiv_eq_ediv_of_nonneg (by omega)]; omega
def rndP (w : Nat) (D : List Int) (P : List Ed) (x y : Int) : Int := tnP w D P x y 0 + tnP w D P (x + 1) y 1 - tnP w D P x (y + 1) 0 - tnP w D P x y 1
theorem rnd_bd {w : Nat} {D : List Int} {P : List Ed} {x y : Int} : -100 ≤ rndP w D P x y ∧ rndP w D P x y ≤ 100 := by
  have b0 := tnP_bd (w := w) (D := D) (P := P) (x := x) (y := y) (u := 0)
  have b1 := tnP_bd (w := w) (D := D) (P := P) (x := x + 1) (y := y) (u := 1)
  have b2 := tnP_bd (w := w) (D := D) (P := P) (x := x) (y := y + 1) (u := 0)
  have b3 := tnP_bd (w := w) (D := D) (P := P) (x := x) (y := y) (u := 1)
  unfold rndP; omega
def psum (w : Nat) (D : List Int) (P : List Ed) (x y : Int) : Nat → Int
  | 0 => 0
  | 1 => tnP w D P x y 0
  | 2 => tnP w D P x y 0 + tnP w D P (x + 1) y 1
  | 3 => tnP w D P x y 0 + tnP w D P (x + 1) y 1 - tnP w D P x (y + 1) 0
  | _ => rndP w D P x y
def isSB (W Q x y : Int) : Bool := decide (0 ≤ x ∧ x < W - 1 ∧ 0 ≤ y ∧ y < Q - 1)
theorem isSB_ed {w q : Nat} {x y : Int} (h : isSB w q x y = true) : isEB w q x y 0 = true ∧ isEB w q (x + 1) y 1 = true ∧ isEB w q x (y + 1) 0 = true ∧ isEB w q x y 1 = true := by
  simp [isSB, isEB] at *
  omega
def trnP (W Q : Int) (D : List Int) (P : List Ed) (x y u : Int) : Int × Int := if validP W Q D P = 0 then (if isEB W Q x y u = true then (tnP W.toNat D P x y u, 0) else (0, 5)) else (0, validP W Q D P)
def indexP (W Q : Int) (D : List Int) (P : List Ed) (x y : Int) : Int × Int := if validP W Q D P = 0 then (if isSB W Q x y = true then ((rndP W.toNat D P x y).tdiv 4, 0) else (0, 5)) else (0, validP W Q D P)
theorem valid_pre {W Q : Int} {D : List Int} {P : List Ed} (h : validP W Q D P = 0) : ∃ w q : Nat, W = w ∧ Q = q ∧ PreF w q D P := by
  by_cases h0 : W < 1 ∨ 12 < W ∨ Q < 1 ∨ 12 < Q ∨ (D.length : Int) ≠ W * Q
  · rw [validP_1 h0] at h; omega
  obtain ⟨w, rfl⟩ := Int.eq_ofNat_of_zero_le (show 0 ≤ W by omega)
  obtain ⟨q, rfl⟩ := Int.eq_ofNat_of_zero_le (show 0 ≤ Q by omega)
  rw [validP_2 h0] at h
  by_cases h1 : allN (dOk D) D.length = true
  case neg => simp [h1] at h
  by_cases h2 : 60 < P.length
  · simp [h1, h2] at h
  by_cases h3 : allN (pOk w q P) P.length = true
  case neg => simp [h1, h2, h3] at h
  exact ⟨w, q, rfl, rfl, PreF.of h0 h1 h2 h3⟩

section
variable {lim : Nat} {H : Hp} {K : V → Hp → Prop} {v d p d' p' : V} {D D' : List Int} {P P' : List Ed} {W Q x y u : Int} {w q : Nat}
theorem flow_rim (hx : -1000 ≤ x ∧ x ≤ 1000) (hy : -1000 ≤ y ∧ y ≤ 1000) (hK : K (.agg [.int .i64 x, .int .i64 y, .int .i64 0, .int .i64 1, .int .i64 (x + 1), .int .i64 y, .int .i64 1, .int .i64 1, .int .i64 x, .int .i64 (y + 1), .int .i64 0, .int .i64 (-1), .int .i64 x, .int .i64 y, .int .i64 1, .int .i64 (-1)]) H) : VCall tbl lim 45 [.int .i64 x, .int .i64 y] H K := by
  refine VCall_fn tbl_at45 rfl ?_
  simp (disch := omega) [vf45, splice, wrap_i64, rd, zsV]
  exact hK
theorem flow_index (hd : SlV H d D) (hp : EdV H p P) (hf : PreF w q D P) (hs : isSB w q x y = true) (hK : K (.int .i64 ((rndP w D P x y).tdiv 4)) H) : VCall tbl lim 33 [.agg [.int .i64 w, .int .i64 q, d, p], .int .i64 x, .int .i64 y] H K := by
  refine VCall_fn tbl_at33 rfl ?_
  obtain ⟨e0, e1, e2, e3⟩ := isSB_ed hs
  have i0 := hf.idx e0
  simp [vf33, hd.stor, hp.stor]
  refine flow_rim (by omega) (by omega) ?_
  simp
  refine wLoop_up 4 (fun i fr L H' => ∃ X, (fr 3 = .lp 0 0 ∧ fr 7 = .int .i64 (psum w D P x y i) ∧ fr 12 = .agg [.int .i64 x, .int .i64 y, .int .i64 0, .int .i64 1, .int .i64 (x + 1), .int .i64 y, .int .i64 1, .int .i64 1, .int .i64 x, .int .i64 (y + 1), .int .i64 0, .int .i64 (-1), .int .i64 x, .int .i64 y, .int .i64 1, .int .i64 (-1)] ∧ fr 13 = .int .i64 i) ∧ L = [.int .i64 w, .int .i64 q, d, p] :: X ∧ H' = H) ⟨[], by simp [psum], rfl, rfl⟩ ?_
  rintro i hi fr L H' ⟨X, ⟨f3, f7, f12, f13⟩, rfl, rfl⟩
  have b0 := tnP_bd (w := w) (D := D) (P := P) (x := x) (y := y) (u := 0)
  have b1 := tnP_bd (w := w) (D := D) (P := P) (x := x + 1) (y := y) (u := 1)
  have b2 := tnP_bd (w := w) (D := D) (P := P) (x := x) (y := y + 1) (u := 0)
  have b3 := tnP_bd (w := w) (D := D) (P := P) (x := x) (y := y) (u := 1)
  rcases (show i = 0 ∨ i = 1 ∨ i = 2 ∨ i = 3 ∨ i = 4 by omega) with rfl | rfl | rfl | rfl | rfl
  · simp [f3, f7, f12, f13, vidxA, vint, vfield, rd, lastO, lastS, z4, g43, hd.stor, hp.stor]
    refine flow_turning hd hp hf e0 ?_
    simp (disch := omega) [f3, f7, f12, f13, wrap_i64, psum]
  · simp [f3, f7, f12, f13, vidxA, vint, vfield, rd, lastO, lastS, z4, g43, hd.stor, hp.stor]
    refine flow_turning hd hp hf e1 ?_
    simp (disch := omega) [f3, f7, f12, f13, wrap_i64, psum]
  · simp [f3, f7, f12, f13, vidxA, vint, vfield, rd, lastO, lastS, z4, g43, hd.stor, hp.stor]
    refine flow_turning hd hp hf e2 ?_
    simp (disch := omega) [f3, f7, f12, f13, wrap_i64, psum]
    omega
  · simp [f3, f7, f12, f13, vidxA, vint, vfield, rd, lastO, lastS, z4, g43, hd.stor, hp.stor]
    refine flow_turning hd hp hf e3 ?_
    simp (disch := omega) [f3, f7, f12, f13, wrap_i64, psum, rndP]
    omega
  · have hb := td4 (n := rndP w D P x y) (by unfold rndP; omega) (by unfold rndP; omega)
    simp (disch := omega) [f3, f7, f12, f13, psum, wrap_i64]
    exact hK
theorem isSB_w {W Q x y : Int} : decide (0 ≤ x ∧ x < W - 1 ∧ 0 ≤ y ∧ y < Q - 1) = isSB W Q x y := Eq.trans rfl rfl
def fldA (W Q : Int) (d p : V) : V := .agg [.int .i64 W, .int .i64 Q, d, p]
theorem flow_Index (hd : SlV H d D) (hp : EdV H p P) (hW : I64 W) (hQ : I64 Q) (hl : D.length ≤ 100000 ∧ P.length ≤ 100000) (hlim : lim ≤ H.length) (hK : ∀ H', HX H H' → K (.tup [.int .i64 (indexP W Q D P x y).1, .int .i64 (indexP W Q D P x y).2]) H') : VCall tbl lim 12 [.agg [.int .i64 W, .int .i64 Q, d, p], .int .i64 x, .int .i64 y] H K := by
  refine VCall_fn tbl_at12 rfl ?_
  simp [vf12, hd.stor, hp.stor]
  refine flow_Validate hd hp hW hQ hl hlim fun H1 x1 => ?_
  replace x1 : HX H H1 := x1
  simp
  refine cond_ndec (fun h => ?_) fun h => ?_
  · simp
    simpa [indexP, h] using hK _ x1
  obtain ⟨w, q, rfl, rfl, hf⟩ := valid_pre h
  simp [hd.stor, hp.stor]
  refine flow_isSquare hd.stor hp.stor (by have := hf.w1; omega) (by have := hf.q1; omega) ?_
  rw [isSB_w]
  by_cases he : isSB w q x y = true
  · simp [he, hd.stor, hp.stor]
    refine flow_index (hd.mono x1) (hp.mono x1) hf he ?_
    simp
    simpa [indexP, h, he] using hK _ x1
  · simp [he]
    simpa [indexP, h, he] using hK _ x1
theorem fl_known (hlim : lim ≤ H.length) (hK : ∀ H', HX H H' → K (.bool true) H') : VCall tbl lim 5 [] H K := by
  refine VCall_fn tbl_at5 rfl ?_
  simp [vf5]
  refine VCall_fn tbl_at13 rfl ?_
  simp [vf13, splice]
  refine flow_Index (D := [5, 7, 3, 1]) (P := []) (.lit (own := true) (l := [5, 7, 3, 1]) List.getElem?_concat_length rfl) ⟨.nil, by simp⟩ (by unfold I64; omega) (by unfold I64; omega) (by simp) (by simp; omega) fun H1 x1 => ?_
  have e : indexP 2 2 [5, 7, 3, 1] [] 0 0 = (2, 0) := by decide
  simp [e]
  exact hK _ (HX.push.trans x1)
theorem fl_Long (hd : SlV H d D) (hp : EdV H p P) (hK : K (.bool (decide (400 < D.length ∨ 200 < P.length))) H) : VCall tbl lim 4 [.agg [.int .i64 W, .int .i64 Q, d, p]] H K := by
  refine VCall_fn tbl_at4 rfl ?_
  simp [vf4, hd.stor, hp.stor, hd.len, hp.len]
  have e1 : decide (400 < (D.length : Int)) = decide (400 < D.length) := by simp only [decide_eq_decide]; omega
  have e2 : decide (200 < (P.length : Int)) = decide (200 < P.length) := by simp only [decide_eq_decide]; omega
  rw [e1, e2]
  simpa using hK
theorem ref_Copy (hd : SlV H d D) (hp : EdV H p P) (hl : D.length ≤ 1000 ∧ P.length ≤ 1000) (hlim : lim ≤ H.length) (hK : ∀ H' d' p', HX H H' → SlV H' d' D → EdV H' p' P → K (.agg [.int .i64 W, .int .i64 Q, d', p']) H') : VCall tbl lim 6 [.agg [.int .i64 W, .int .i64 Q, d, p]] H K := by
  refine VCall_fn tbl_at6 rfl ?_
  simp [vf6, hd.stor, hp.stor]
  refine ref01_CopyInts hd (Nat.le_refl _) hl.1 fun H1 d1 x1 o1 => ?_
  replace x1 : HX H H1 := x1
  have l1 := x1.len
  simp [o1.sl.stor, o1.sl.one]
  refine wLoop_up P.length (fun i fr L H' => ∃ v, (fr 1 = .lp 0 0 ∧ fr 2 = .lp 1 0 ∧ fr 3 = .lp 2 0 ∧ fr 4 = .int .i64 i) ∧ L = [[.int .i64 W, .int .i64 Q, d, p], [.int .i64 0, .int .i64 0, .snil, .snil], [.int .i64 W, .int .i64 Q, d1, v]] ∧ HX H1 H' ∧ OwnT H1.length edC H' v (P.take i)) ⟨.snil, by simp, by simp, .refl, .nil⟩ ?_
  rintro i hi fr L H2 ⟨v, ⟨f1, f2, f3, f4⟩, rfl, hx, hv⟩
  have hp2 := hp.mono (x1.trans hx)
  simp [f1, f2, f3, f4, hp.len]
  refine cond_dec (fun ht => ?_) fun hfl => ?_
  · have ht : i < P.length := by omega
    obtain ⟨v', H3, a1, a2, a3, a4, a5, a6⟩ := hv.append (lim := lim) (bytes := 24) (x := P.getD i default) (cs := [.int .i64 (P.getD i default).x, .int .i64 (P.getD i default).y, .int .i64 (P.getD i default).u]) rfl ⟨by omega, hx.len⟩ (by omega) (by simp; omega)
    have e : P.take (i + 1) = P.take i ++ [P.getD i default] := by
      rw [List.take_add_one, List.getElem?_eq_getElem ht]; simp [List.getD_eq_getElem?_getD, ht]
    simp (disch := omega) [f1, f2, f3, f4, hp2.addr, hp2.load, splice33, a1, wrap_i64, a2.lst.stor, a2.lst.one]
    refine ⟨by omega, a3 _ hx (Nat.le_refl _), ?_⟩
    rw [e]; exact a2
  · have : i = P.length := by omega
    subst this
    simp [f1, f2, f3, f4, o1.sl.stor, hv.lst.stor]
    rw [List.take_length] at hv
    exact hK _ _ _ (x1.trans hx) (o1.sl.mono hx) ⟨hv.lst, hp.all⟩
theorem ref_Same (hd : SlV H d D) (hp : EdV H p P) (hd' : SlV H d' D') (hp' : EdV H p' P') (hl : D.length ≤ 100000 ∧ P.length ≤ 100000) (hK : K (.bool (decide (W = x ∧ Q = y ∧ D = D' ∧ P = P'))) H) : VCall tbl lim 11 [.agg [.int .i64 W, .int .i64 Q, d, p], .agg [.int .i64 x, .int .i64 y, d', p']] H K := by
  refine VCall_fn tbl_at11 rfl ?_
  by_cases h1 : W = x
  case neg =>
    simp [vf11, hd.stor, hp.stor, hd'.stor, hp'.stor, h1]
    simpa [h1] using hK
  by_cases h2 : Q = y
  case neg =>
    simp [vf11, hd.stor, hp.stor, hd'.stor, hp'.stor, h1, h2]
    simpa [h2] using hK
  subst h1 h2
  simp [vf11, hd.stor, hp.stor, hd'.stor, hp'.stor]
  refine ref01_SameInts hd hd' (by omega) ?_
  by_cases h3 : D = D'
  case neg =>
    simp [h3]
    simpa [h3] using hK
  simp [h3, hp.len, hp'.len]
  refine cond_ndec (fun h4 => ?_) fun h4 => ?_
  · have : P ≠ P' := by intro e; subst e; exact h4 rfl
    simp
    simpa [this] using hK
  have h4 : P.length = P'.length := by omega
  simp
  refine wLoop_up P.length (fun i fr L H' => (fr 2 = .lp 0 0 ∧ fr 3 = .lp 1 0 ∧ fr 5 = .int .i64 i) ∧ L = [[.int .i64 W, .int .i64 Q, d, p], [.int .i64 W, .int .i64 Q, d', p']] ∧ H' = H ∧ P.take i = P'.take i) ⟨by simp, by simp, rfl, by simp⟩ ?_
  rintro i hi fr L H2 ⟨⟨f2, f3, f5⟩, rfl, rfl, he⟩
  simp [f2, f3, f5, hp.len]
  refine cond_dec (fun ht => ?_) fun hfl => ?_
  · have ht : i < P.length := by omega
    simp (disch := omega) [f2, f3, f5, hp.addr, hp.load, hp'.addr, hp'.load, veqA_3]
    have e1 : P.take (i + 1) = P.take i ++ [P.getD i default] := by
      rw [List.take_add_one, List.getElem?_eq_getElem ht]; simp [List.getD_eq_getElem?_getD, ht]
    have e2 : P'.take (i + 1) = P'.take i ++ [P'.getD i default] := by
      rw [List.take_add_one, List.getElem?_eq_getElem (by omega)]; simp [List.getD_eq_getElem?_getD, h4 ▸ ht]
    by_cases hq : P.getD i default = P'.getD i default
    · simp (disch := omega) [hq, f2, f3, f5, wrap_i64]
      refine ⟨by omega, ?_⟩
      rw [e1, e2, he, hq]
    · have : P ≠ P' := by intro e; subst e; exact hq rfl
      have hq2 : ¬ ((P.getD i default).x = (P'.getD i default).x ∧ (P.getD i default).y = (P'.getD i default).y ∧ (P.getD i default).u = (P'.getD i default).u) := by
        rintro ⟨q1, q2, q3⟩
        apply hq
        cases hA : P.getD i default
        cases hB : P'.getD i default
        rw [hA, hB] at q1 q2 q3
        simp at q1 q2 q3
        subst q1 q2 q3
        rfl
      refine cond_bool (fun h => ?_) fun h => ?_
      · simp
        simpa [this] using hK
      · exfalso
        apply hq2
        simpa using h
  · have : i = P.length := by omega
    subst this
    rw [List.take_length, h4, List.take_length] at he
    simp
    simpa [he, h3] using hK
end
end Go.Proofs.Ytnfhccioglpjhaa.Vm
