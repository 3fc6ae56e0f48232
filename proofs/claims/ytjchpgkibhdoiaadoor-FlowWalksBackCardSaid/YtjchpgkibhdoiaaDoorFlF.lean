/- Fields of directions over the machine: indices, copies; FlowValidates, FlowTurns. -/
import Derived.Test.YtjchpgkibhdoiaaDoorFlE
namespace Go.Proofs.YtjchpgkibhdoiaaDoor.Vm
open Go
set_option maxRecDepth 100000
set_option linter.unusedSimpArgs false
set_option linter.unusedVariables false
attribute [-simp] List.getD_eq_getElem?_getD

structure Fld where
  W : Int
  Q : Int
  D : List Int
  P : List Ed
/-- the cells of a field -/
inductive FldV (H : Hp) : List V → Fld → Prop
  | mk {d p : V} {W Q : Int} {D : List Int} {P : List Ed} : I64 W → I64 Q → SlV H d D → EdV H p P → (∀ x ∈ D, I64 x) → FldV H [.int .i64 W, .int .i64 Q, d, p] ⟨W, Q, D, P⟩
theorem eds_of {H : Hp} {v : V} {d : CD} (h : RepT H (.sl [cInt, cInt, cInt]) v d) : ∃ l, EdV H v l := by
  obtain ⟨l, h1, _, h3⟩ := lst_of (c := edC) rfl (fun z => z.in64) (fun vs ds h => by
    obtain ⟨v0, u0, _, _, rfl, _, p0, q0⟩ := reps_cons h
    obtain ⟨v1, u1, _, _, rfl, _, p1, q1⟩ := reps_cons q0
    obtain ⟨v2, u2, _, _, rfl, _, p2, q2⟩ := reps_cons q1
    have e := reps_nil q2
    subst e
    obtain ⟨n0, rfl, c0⟩ := int_of p0
    obtain ⟨n1, rfl, c1⟩ := int_of p1
    obtain ⟨n2, rfl, c2⟩ := int_of p2
    exact ⟨⟨n0, n1, n2⟩, rfl, c0, c1, c2⟩) h
  exact ⟨l, h1, h3⟩
theorem fld_of {H : Hp} {ws : List V} {ds : List CD} (h : RepTs H [cInt, cInt, cInts, .sl [cInt, cInt, cInt]] ws ds) : ∃ f, FldV H ws f := by
  obtain ⟨v0, u0, _, _, rfl, _, p0, q0⟩ := reps_cons h
  obtain ⟨v1, u1, _, _, rfl, _, p1, q1⟩ := reps_cons q0
  obtain ⟨v2, u2, _, _, rfl, _, p2, q2⟩ := reps_cons q1
  obtain ⟨v3, u3, _, _, rfl, _, p3, q3⟩ := reps_cons q2
  have e := reps_nil q3
  subst e
  obtain ⟨n0, rfl, c0⟩ := int_of p0
  obtain ⟨n1, rfl, c1⟩ := int_of p1
  obtain ⟨l2, c2, _, z2⟩ := ints_of p2
  obtain ⟨l3, c3⟩ := eds_of p3
  exact ⟨⟨n0, n1, l2, l3⟩, .mk c0 c1 c2 c3 z2⟩

theorem z4 : ints (zs 4) = [.int .i64 0, .int .i64 0, .int .i64 0, .int .i64 0] := Eq.trans rfl rfl
theorem g43 {a b c d : V} : [a, b, c, d].getD 3 dv = d := Eq.trans rfl rfl
theorem td4 {n : Int} (h1 : -100 ≤ n) (h2 : n ≤ 100) : -100 ≤ n.tdiv 4 ∧ n.tdiv 4 ≤ 100 := by
  by_cases h : 0 ≤ n
  · rw [Int.tdiv_eq_ediv_of_nonneg h]; omega
  · have e : n = -(-n) := by omega
    rw [e, Int.neg_tdiv, Int.tdiv_eq_ediv_of_nonneg (by omega)]; omega
def rndP (w : Nat) (D : List Int) (P : List Ed) (x y : Int) : Int := tnP w D P x y 0 + tnP w D P (x + 1) y 1 - tnP w D P x (y + 1) 0 - tnP w D P x y 1
theorem rnd_bd {w : Nat} {D : List Int} {P : List Ed} {x y : Int} : -100 ≤ rndP w D P x y ∧ rndP w D P x y ≤ 100 := by
  have b0 := tnP_bd (w := w) (D := D) (P := P) (x := x) (y := y) (u := 0)
  have b1 := tnP_bd (w := w) (D := D) (P := P) (x := x + 1) (y := y) (u := 1)
  have b2 := tnP_bd (w := w) (D := D) (P := P) (x := x) (y := y + 1) (u := 0)
  have b3 := tnP_bd (w := w) (D := D) (P := P) (x := x) (y := y) (u := 1)
  unfold rndP; omega
def psum (w : Nat) (D : List Int) (P : List Ed) (x y : Int) : Nat → Int
  | 0 => 0
  | 1 => tnP w D P x y 0
  | 2 => tnP w D P x y 0 + tnP w D P (x + 1) y 1
  | 3 => tnP w D P x y 0 + tnP w D P (x + 1) y 1 - tnP w D P x (y + 1) 0
  | _ => rndP w D P x y
def isSB (W Q x y : Int) : Bool := decide (0 ≤ x ∧ x < W - 1 ∧ 0 ≤ y ∧ y < Q - 1)
theorem isSB_ed {w q : Nat} {x y : Int} (h : isSB w q x y = true) : isEB w q x y 0 = true ∧ isEB w q (x + 1) y 1 = true ∧ isEB w q x (y + 1) 0 = true ∧ isEB w q x y 1 = true := by
  simp [isSB, isEB] at *
  omega
def turnP (W Q : Int) (D : List Int) (P : List Ed) (x y u : Int) : Int × Int := if validP W Q D P = 0 then (if isEB W Q x y u = true then (tnP W.toNat D P x y u, 0) else (0, 5)) else (0, validP W Q D P)
def indexP (W Q : Int) (D : List Int) (P : List Ed) (x y : Int) : Int × Int := if validP W Q D P = 0 then (if isSB W Q x y = true then ((rndP W.toNat D P x y).tdiv 4, 0) else (0, 5)) else (0, validP W Q D P)
theorem valid_pre {W Q : Int} {D : List Int} {P : List Ed} (h : validP W Q D P = 0) : ∃ w q : Nat, W = w ∧ Q = q ∧ PreF w q D P := by
  by_cases h0 : W < 1 ∨ 12 < W ∨ Q < 1 ∨ 12 < Q ∨ (D.length : Int) ≠ W * Q
  · rw [validP_1 h0] at h; omega
  obtain ⟨w, rfl⟩ := Int.eq_ofNat_of_zero_le (show 0 ≤ W by omega)
  obtain ⟨q, rfl⟩ := Int.eq_ofNat_of_zero_le (show 0 ≤ Q by omega)
  rw [validP_2 h0] at h
  by_cases h1 : allN (dOk D) D.length = true
  case neg => simp [h1] at h
  by_cases h2 : 60 < P.length
  · simp [h1, h2] at h
  by_cases h3 : allN (pOk w q P) P.length = true
  case neg => simp [h1, h2, h3] at h
  exact ⟨w, q, rfl, rfl, PreF.of h0 h1 h2 h3⟩

section
variable {lim : Nat} {H : Hp} {K : V → Hp → Prop} {v d p d' p' : V} {D D' : List Int} {P P' : List Ed} {W Q x y u : Int} {w q : Nat}
theorem flow_rim (hx : -1000 ≤ x ∧ x ≤ 1000) (hy : -1000 ≤ y ∧ y ≤ 1000) (hK : K (.agg [.int .i64 x, .int .i64 y, .int .i64 0, .int .i64 1, .int .i64 (x + 1), .int .i64 y, .int .i64 1, .int .i64 1, .int .i64 x, .int .i64 (y + 1), .int .i64 0, .int .i64 (-1), .int .i64 x, .int .i64 y, .int .i64 1, .int .i64 (-1)]) H) : VCall tbl lim 69 [.int .i64 x, .int .i64 y] H K := by
  refine VCall_fn tbl_at69 rfl ?_
  simp (disch := omega) [vf69, splice, wrap_i64, rd, zsV]
  exact hK
theorem flow_index (hd : SlV H d D) (hp : EdV H p P) (hf : PreF w q D P) (hs : isSB w q x y = true) (hK : K (.int .i64 ((rndP w D P x y).tdiv 4)) H) : VCall tbl lim 68 [.agg [.int .i64 w, .int .i64 q, d, p], .int .i64 x, .int .i64 y] H K := by
  refine VCall_fn tbl_at68 rfl ?_
  obtain ⟨e0, e1, e2, e3⟩ := isSB_ed hs
  have i0 := hf.idx e0
  simp [vf68, hd.stor, hp.stor]
  refine flow_rim (by omega) (by omega) ?_
  simp
  refine wLoop_up 4 (fun i fr L H' => ∃ X, (fr 3 = .lp 0 0 ∧ fr 7 = .int .i64 (psum w D P x y i) ∧ fr 12 = .agg [.int .i64 x, .int .i64 y, .int .i64 0, .int .i64 1, .int .i64 (x + 1), .int .i64 y, .int .i64 1, .int .i64 1, .int .i64 x, .int .i64 (y + 1), .int .i64 0, .int .i64 (-1), .int .i64 x, .int .i64 y, .int .i64 1, .int .i64 (-1)] ∧ fr 13 = .int .i64 i) ∧ L = [.int .i64 w, .int .i64 q, d, p] :: X ∧ H' = H) ⟨[], by simp [psum], rfl, rfl⟩ ?_
  rintro i hi fr L H' ⟨X, ⟨f3, f7, f12, f13⟩, rfl, rfl⟩
  have b0 := tnP_bd (w := w) (D := D) (P := P) (x := x) (y := y) (u := 0)
  have b1 := tnP_bd (w := w) (D := D) (P := P) (x := x + 1) (y := y) (u := 1)
  have b2 := tnP_bd (w := w) (D := D) (P := P) (x := x) (y := y + 1) (u := 0)
  have b3 := tnP_bd (w := w) (D := D) (P := P) (x := x) (y := y) (u := 1)
  rcases (show i = 0 ∨ i = 1 ∨ i = 2 ∨ i = 3 ∨ i = 4 by omega) with rfl | rfl | rfl | rfl | rfl
  · simp [f3, f7, f12, f13, vidxA, vint, vfield, rd, lastO, lastS, z4, g43, hd.stor, hp.stor]
    refine flow_turning hd hp hf e0 ?_
    simp (disch := omega) [f3, f7, f12, f13, wrap_i64, psum]
  · simp [f3, f7, f12, f13, vidxA, vint, vfield, rd, lastO, lastS, z4, g43, hd.stor, hp.stor]
    refine flow_turning hd hp hf e1 ?_
    simp (disch := omega) [f3, f7, f12, f13, wrap_i64, psum]
  · simp [f3, f7, f12, f13, vidxA, vint, vfield, rd, lastO, lastS, z4, g43, hd.stor, hp.stor]
    refine flow_turning hd hp hf e2 ?_
    simp (disch := omega) [f3, f7, f12, f13, wrap_i64, psum]
    omega
  · simp [f3, f7, f12, f13, vidxA, vint, vfield, rd, lastO, lastS, z4, g43, hd.stor, hp.stor]
    refine flow_turning hd hp hf e3 ?_
    simp (disch := omega) [f3, f7, f12, f13, wrap_i64, psum, rndP]
    omega
  · have hb := td4 (n := rndP w D P x y) (by unfold rndP; omega) (by unfold rndP; omega)
    simp (disch := omega) [f3, f7, f12, f13, psum, wrap_i64]
    exact hK
theorem isSB_w {W Q x y : Int} : decide (0 ≤ x ∧ x < W - 1 ∧ 0 ≤ y ∧ y < Q - 1) = isSB W Q x y := Eq.trans rfl rfl
def fldA (W Q : Int) (d p : V) : V := .agg [.int .i64 W, .int .i64 Q, d, p]
theorem flow_Index (hd : SlV H d D) (hp : EdV H p P) (hW : I64 W) (hQ : I64 Q) (hl : D.length ≤ 1000 ∧ P.length ≤ 1000) (hlim : lim ≤ H.length) (hK : ∀ H', HX H H' → K (.tup [.int .i64 (indexP W Q D P x y).1, .int .i64 (indexP W Q D P x y).2]) H') : VCall tbl lim 36 [.agg [.int .i64 W, .int .i64 Q, d, p], .int .i64 x, .int .i64 y] H K := by
  refine VCall_fn tbl_at36 rfl ?_
  simp [vf36, hd.stor, hp.stor]
  refine flow_Validate hd hp hW hQ hl hlim fun H1 x1 => ?_
  replace x1 : HX H H1 := x1
  simp
  refine cond_ndec (fun h => ?_) fun h => ?_
  · simp
    simpa [indexP, h] using hK _ x1
  obtain ⟨w, q, rfl, rfl, hf⟩ := valid_pre h
  simp [hd.stor, hp.stor]
  refine flow_isSquare hd.stor hp.stor (by have := hf.w1; omega) (by have := hf.q1; omega) ?_
  rw [isSB_w]
  by_cases he : isSB w q x y = true
  · simp [he, hd.stor, hp.stor]
    refine flow_index (hd.mono x1) (hp.mono x1) hf he ?_
    simp
    simpa [indexP, h, he] using hK _ x1
  · simp [he]
    simpa [indexP, h, he] using hK _ x1
theorem fl_known (hlim : lim ≤ H.length) (hK : ∀ H', HX H H' → K (.bool true) H') : VCall tbl lim 12 [] H K := by
  refine VCall_fn tbl_at12 rfl ?_
  simp [vf12]
  refine VCall_fn tbl_at37 rfl ?_
  simp [vf37, splice]
  refine flow_Index (D := [5, 7, 3, 1]) (P := []) (.lit (own := true) (l := [5, 7, 3, 1]) List.getElem?_concat_length rfl) ⟨.nil, by simp⟩ (by unfold I64; omega) (by unfold I64; omega) (by simp) (by simp; omega) fun H1 x1 => ?_
  have e : indexP 2 2 [5, 7, 3, 1] [] 0 0 = (2, 0) := by decide
  simp [e]
  exact hK _ (HX.push.trans x1)
theorem fl_Long (hd : SlV H d D) (hp : EdV H p P) (hK : K (.bool (decide (400 < D.length ∨ 200 < P.length))) H) : VCall tbl lim 11 [.agg [.int .i64 W, .int .i64 Q, d, p]] H K := by
  refine VCall_fn tbl_at11 rfl ?_
  simp [vf11, hd.stor, hp.stor, hd.len, hp.len]
  have e1 : decide (400 < (D.length : Int)) = decide (400 < D.length) := by simp only [decide_eq_decide]; omega
  have e2 : decide (200 < (P.length : Int)) = decide (200 < P.length) := by simp only [decide_eq_decide]; omega
  rw [e1, e2]
  simpa using hK
end
end Go.Proofs.YtjchpgkibhdoiaaDoor.Vm
