/- Crops; regions of squares. -/
import Derived.Test.YtjchpgkibhdoiaaDoorFmC
import Derived.Test.YtjchpgkibhdoiaaDoorVmRec
namespace Go.Proofs.YtjchpgkibhdoiaaDoor.Vm
open Go
set_option maxRecDepth 100000
set_option linter.unusedSimpArgs false
set_option linter.unusedVariables false
attribute [-simp] List.getD_eq_getElem?_getD

def cropOk (W Q x y w h : Int) : Prop := 0 ≤ x ∧ x < W ∧ 0 ≤ y ∧ y < Q ∧ 1 ≤ w ∧ 1 ≤ h ∧ w ≤ W - x ∧ h ≤ Q - y
instance {W Q x y w h : Int} : Decidable (cropOk W Q x y w h) := by unfold cropOk; infer_instance
def cropD (W : Nat) (D : List Int) (x y w : Nat) (i : Nat) : List Int := (D.drop ((y + i) * W + x)).take w
def cropE (W Q : Int) (D : List Int) (P : List Ed) (x y w h : Int) : Int :=
  if validP W Q D P ≠ 0 then validP W Q D P else if ¬ cropOk W Q x y w h then 1
  else validP w h (catR (cropD W.toNat D x.toNat y.toNat w.toNat) h.toNat) (cropP w h x y P P.length)

section
variable {lim : Nat} {H : Hp} {K : V → Hp → Prop} {v d p d' p' : V} {D D' : List Int} {P P' : List Ed} {W Q x y w h : Int}
theorem tw0 {α : Type} {X : List α} {c d : α} : (X ++ [c, d])[X.length]? = some c := by simp
theorem tw1 {α : Type} {X : List α} {c d : α} : (X ++ [c, d])[X.length + 1]? = some d := by simp
theorem tws0 {α : Type} {X : List α} {c d e : α} : (X ++ [c, d]).set X.length e = X ++ [e, d] := by simp
theorem tws1 {α : Type} {X : List α} {c d e : α} : (X ++ [c, d]).set (X.length + 1) e = X ++ [c, e] := by
  rw [List.set_append_right _ _ (by omega)]; simp
theorem cropP_ed {H : Hp} {pv : V} {w1 q1 X Y w2 h2 : Nat} {D : List Int} {P : List Ed} (hf : PreF w1 q1 D P) (hX : X ≤ 12 ∧ Y ≤ 12) (h : LstV edC H pv (cropP w2 h2 X Y P P.length)) : EdV H pv (cropP w2 h2 X Y P P.length) := by
  refine ⟨h, ?_⟩
  have key : ∀ i, i ≤ P.length → ∀ e ∈ cropP w2 h2 X Y P i, e.in64 := by
    intro i
    induction i with
    | zero => intro _ e he; simp [cropP] at he
    | succ i ih =>
      intro hi e he
      simp only [cropP] at he
      rcases List.mem_append.1 he with he | he
      · exact ih (by omega) e he
      · split at he
        · simp only [List.mem_singleton] at he
          subst he
          have po := hf.po i (by omega)
          simp only [pOk, Bool.and_eq_true] at po
          have pe := po.1
          have := hf.w1
          have := hf.q1
          simp only [isEB, decide_eq_true_eq] at pe
          unfold Ed.in64 I64; simp only; omega
        · simp at he
  exact key _ (Nat.le_refl _)
theorem cut_sub {a b : Nat} (hd : SlV H d D) (hab : a < b ∧ b ≤ D.length) : vslS 1 d (some (.int .i64 (a : Int))) (some (.int .i64 (b : Int))) = some (subV d a b) ∧ SlV H (subV d a b) ((D.drop a).take (b - a)) :=
  ⟨hd.subW ⟨by omega, hab.2⟩ (by omega) (vbounds_nat ⟨by omega, hab.2⟩), hd.sub ⟨by omega, hab.2⟩⟩
theorem flow_Crop (hd : SlV H d D) (hp : EdV H p P) (hW : I64 W) (hQ : I64 Q) (hx : I64 x) (hy : I64 y) (hw : I64 w) (hh : I64 h) (hl : D.length ≤ 1000 ∧ P.length ≤ 1000) (hlim : lim ≤ H.length)
    (hbad : cropE W Q D P x y w h ≠ 0 → ∀ H', HX H H' → K (.tup [.agg [.int .i64 0, .int .i64 0, .snil, .snil], .int .i64 (cropE W Q D P x y w h)]) H')
    (hK : cropE W Q D P x y w h = 0 → ∀ H' d' p', HX H H' → SlV H' d' (catR (cropD W.toNat D x.toNat y.toNat w.toNat) h.toNat) → EdV H' p' (cropP w h x y P P.length) → K (.tup [.agg [.int .i64 w, .int .i64 h, d', p'], .int .i64 0]) H') : VCall tbl lim 33 [.agg [.int .i64 W, .int .i64 Q, d, p], .int .i64 x, .int .i64 y, .int .i64 w, .int .i64 h] H K := by
  refine VCall_fn tbl_at33 rfl ?_
  simp [vf33, hd.stor, hp.stor]
  refine flow_Validate hd hp hW hQ hl hlim fun H1 x1 => ?_
  replace x1 : HX H H1 := x1
  have l1 := x1.len
  simp
  refine cond_ndec (fun hv => ?_) fun hv => ?_
  · have e : cropE W Q D P x y w h = validP W Q D P := by simp [cropE, hv]
    rw [e] at hbad
    simp; exact hbad hv _ x1
  obtain ⟨w1, q1, rfl, rfl, hf⟩ := valid_pre hv
  have b1 := hf.w1
  have b3 := hf.q1
  simp [hd.stor, hp.stor]
  refine flow_isPlace hd.stor hp.stor ?_
  by_cases hpl : 0 ≤ x ∧ x < w1 ∧ 0 ≤ y ∧ y < q1
  case neg =>
    have e : cropE w1 q1 D P x y w h = 1 := by
      have : ¬ cropOk w1 q1 x y w h := by unfold cropOk; omega
      simp [cropE, hv, this]
    rw [e] at hbad
    simp [hpl]; exact hbad (by omega) _ x1
  simp (disch := omega) [hpl, wrap_i64]
  refine cond_bool (fun hc => ?_) fun hc => ?_
  · have e : cropE w1 q1 D P x y w h = 1 := by
      have : ¬ cropOk w1 q1 x y w h := by simp at hc; unfold cropOk; omega
      simp [cropE, hv, this]
    rw [e] at hbad
    simp; exact hbad (by omega) _ x1
  have hok : cropOk w1 q1 x y w h := by simp at hc; unfold cropOk; omega
  have hok2 := hok
  unfold cropOk at hok2
  obtain ⟨X, rfl⟩ := Int.eq_ofNat_of_zero_le hok2.1
  obtain ⟨Y, rfl⟩ := Int.eq_ofNat_of_zero_le hok2.2.2.1
  obtain ⟨w2, rfl⟩ := Int.eq_ofNat_of_zero_le (show 0 ≤ w by omega)
  obtain ⟨h2, rfl⟩ := Int.eq_ofNat_of_zero_le (show 0 ≤ h by omega)
  have eC : cropE w1 q1 D P X Y w2 h2 = validP w2 h2 (catR (cropD w1 D X Y w2) h2) (cropP w2 h2 X Y P P.length) := by simp [cropE, hv, hok]
  rw [eC] at hbad hK
  simp only [Int.toNat_natCast] at hK
  simp [splice]
  have n1 : D.length = w1 * q1 := by
    have e : ((w1 * q1 : Nat) : Int) = (w1 : Int) * q1 := by simp
    have := hf.dl
    omega
  have rl : ∀ i, i < h2 → (cropD w1 D X Y w2 i).length = w2 := by
    intro i hi
    have m1 : (Y + i + 1) * w1 ≤ q1 * w1 := Nat.mul_le_mul_right _ (by omega)
    rw [Nat.add_mul, Nat.one_mul] at m1
    rw [Nat.mul_comm] at n1
    simp [cropD]; omega
  have cl : ∀ i, i ≤ h2 → (catR (cropD w1 D X Y w2) i).length = i * w2 := by
    intro i hi
    match i with
    | 0 => simp [catR]
    | i + 1 => exact (catR_row (n := i + 1) (fun j hj => rl j (by omega)) (i := 0) (by omega)).2
  have cb : ∀ i, i ≤ h2 → i * w2 ≤ 12 * 12 := fun i hi => Nat.mul_le_mul (by omega) (by omega)
  refine wLoop_up h2 (fun i fr L H' => ∃ v, (fr 1 = .int .i64 X ∧ fr 2 = .int .i64 Y ∧ fr 3 = .int .i64 w2 ∧ fr 4 = .int .i64 h2 ∧ fr 5 = .lp 0 0 ∧ fr 10 = .lp 1 0 ∧ fr 13 = .lp 2 0 ∧ fr 14 = .int .i64 ((Y : Int) + i)) ∧ L = [[.int .i64 w1, .int .i64 q1, d, p], [.int .i64 0, .int .i64 0, .snil, .snil], [.int .i64 w2, .int .i64 h2, v, .snil]] ∧ HX H1 H' ∧ OwnV H1.length H' v (catR (cropD w1 D X Y w2) i)) ⟨.snil, by simp, by simp, .refl, .nil⟩ ?_
  rintro i hi fr L H4 ⟨v, ⟨f1, f2, f3, f4, f5, f10, f13, f14⟩, rfl, hx4, ov⟩
  have hx4l := hx4.len
  simp (disch := omega) [f1, f2, f3, f4, f5, f10, f13, f14, wrap_i64]
  refine cond_dec (fun ht => ?_) fun hfl => ?_
  · have ht : i < h2 := by omega
    have m1 : (Y + i + 1) * w1 ≤ q1 * w1 := Nat.mul_le_mul_right _ (by omega)
    rw [Nat.add_mul, Nat.one_mul] at m1
    have m2 : q1 * w1 = w1 * q1 := Nat.mul_comm _ _
    have c1 := mul_bd (a := (Y : Int) + i) (b := (w1 : Int)) (A := 24) (B := 12) (by omega) (by omega)
    have ea : ((Y : Int) + i) * w1 = (((Y + i) * w1 : Nat) : Int) := by simp
    have u1 : IntKind.i64.wrap (((Y : Int) + i) * w1) = ((Y : Int) + i) * w1 := wrap_i64 (by omega) (by omega)
    have u2 : IntKind.i64.wrap (((Y : Int) + i) * w1 + X) = ((Y : Int) + i) * w1 + X := wrap_i64 (by omega) (by omega)
    have u3 : IntKind.i64.wrap (((Y : Int) + i) * w1 + X + w2) = ((Y : Int) + i) * w1 + X + w2 := wrap_i64 (by omega) (by omega)
    obtain ⟨s1, o1⟩ := cut_sub (a := (Y + i) * w1 + X) (b := (Y + i) * w1 + X + w2) (hd.mono (x1.trans hx4)) (by omega)
    have eb : (((Y + i) * w1 + X : Nat) : Int) = ((Y : Int) + i) * w1 + X := by simp
    have ec : (((Y + i) * w1 + X + w2 : Nat) : Int) = ((Y : Int) + i) * w1 + X + w2 := by simp
    rw [eb, ec] at s1
    have ed : (Y + i) * w1 + X + w2 - ((Y + i) * w1 + X) = w2 := by omega
    rw [ed] at o1
    have k1 := cl i hi
    have k2 := cb i hi
    obtain ⟨v1, H5, a1, ov1, a3, a4⟩ := vapp_own (lim := lim) ov o1 (by omega) hx4.len ⟨by omega, by simp; omega⟩
    have x5 := a3 _ hx4 (Nat.le_refl _)
    simp (disch := omega) [f1, f2, f3, f4, f5, f10, f13, f14, u1, u2, u3, s1, a1, wrap_i64, ov1.sl.stor, ov1.sl.one]
    exact ⟨by omega, by omega, x5, ov1⟩
  have e : h2 = i := by omega
  subst e
  simp [f1, f2, f5, f10, f13, hp.len]
  refine wLoop_up P.length (fun i fr L H' => ∃ pv Z, (fr 1 = .int .i64 X ∧ fr 2 = .int .i64 Y ∧ fr 5 = .lp 0 0 ∧ fr 10 = .lp 1 0 ∧ fr 13 = .lp 2 0 ∧ fr 87 = p ∧ fr 88 = .int .i64 P.length ∧ fr 89 = .int .i64 i) ∧ L = [.int .i64 w1, .int .i64 q1, d, p] :: [.int .i64 0, .int .i64 0, .snil, .snil] :: [.int .i64 w2, .int .i64 h2, v, pv] :: Z ∧ HX H4 H' ∧ OwnT H4.length edC H' pv (cropP w2 h2 X Y P i)) ⟨.snil, [], by simp [f1, f2, f5, f10, f13, hp.len], by simp, .refl, .nil⟩ ?_
  clear f1 f2 f3 f4 f5 f10 f13 f14
  rintro i hi fr L H5 ⟨pv, Z, ⟨f1, f2, f5, f10, f13, f87, f88, f89⟩, rfl, hx5, op⟩
  have hx5l := hx5.len
  have ov5 := ov.mono hx5
  simp [f1, f2, f5, f10, f13, f87, f88, f89]
  refine cond_dec (fun ht => ?_) fun hfl => ?_
  · have ht : i < P.length := by omega
    have hp5 := hp.mono ((x1.trans hx4).trans hx5)
    have po := hf.po i ht
    simp only [pOk, Bool.and_eq_true] at po
    have pe := po.1
    simp only [isEB, decide_eq_true_eq] at pe
    have hcl := cropP_len (w := w2) (q := h2) (x := X) (y := Y) (P := P) i
    have hpl9 := hf.pl
    have hcs : cropP w2 h2 X Y P (i + 1) = cropP w2 h2 X Y P i ++ (if isEB w2 h2 ((P.getD i default).x - X) ((P.getD i default).y - Y) (P.getD i default).u = true then [⟨(P.getD i default).x - X, (P.getD i default).y - Y, (P.getD i default).u⟩] else []) := Eq.trans rfl rfl
    generalize he : P.getD i default = e at *
    have ld : ∀ L, vload (some 3) L H5 (ept 3 p i) = some (.agg [.int .i64 e.x, .int .i64 e.y, .int .i64 e.u]) := fun L => by have := hp5.load (L := L) ht; rw [he] at this; exact this
    have hat := hp5.lst.at ht
    simp (disch := omega) [f1, f2, f5, f10, f13, f87, f88, f89, hat, ld, tw0, tw1, tws0, tws1, lastO, lastS, wrap_i64, ov5.sl.stor, op.lst.stor]
    refine flow_isEdge (W := (w2 : Int)) (Q := (h2 : Int)) ov5.sl.stor op.lst.stor (by omega) (by omega) ?_
    simp
    refine cond_bool (fun hb => ?_) fun hb => ?_
    · obtain ⟨pv', H6, a1, a2, a3, a4, a5, a6⟩ := op.append (lim := lim) (bytes := 24) (x := ⟨e.x - X, e.y - Y, e.u⟩) (cs := [.int .i64 (e.x - X), .int .i64 (e.y - Y), .int .i64 e.u]) rfl ⟨by omega, hx5.len⟩ (by omega) (by omega)
      rw [if_pos hb] at hcs
      simp (disch := omega) [f1, f2, f5, f10, f13, f87, f88, f89, tw0, tw1, tws0, tws1, wrap_i64, a1, a2.lst.stor, a2.lst.one]
      refine ⟨by omega, a3 _ hx5 (Nat.le_refl _), ?_⟩
      rw [hcs]; exact a2
    · rw [if_neg (by simp [hb]), List.append_nil] at hcs
      simp (disch := omega) [f1, f2, f5, f10, f13, f87, f88, f89, wrap_i64]
      refine ⟨by omega, hx5, ?_⟩
      rw [hcs]; exact op
  have e : P.length = i := by omega
  subst e
  have hed := cropP_ed hf (by omega) op.lst
  have k1 := cl h2 (Nat.le_refl _)
  have k2 := cb h2 (Nat.le_refl _)
  have k3 := cropP_len (w := w2) (q := h2) (x := X) (y := Y) (P := P) P.length
  have hpl9 := hf.pl
  have hx05 := (x1.trans hx4).trans hx5
  simp [f10, f13, ov5.sl.stor, op.lst.stor]
  refine flow_checkedE ov5.sl hed hw hh ⟨by omega, by omega⟩ (by omega) (fun hb H6 x6 => ?_) fun hg H6 x6 => ?_
  · replace x6 : HX H5 H6 := x6
    simp [f10]
    exact hbad hb _ (hx05.trans x6)
  · replace x6 : HX H5 H6 := x6
    simp [f10, ov5.sl.stor, op.lst.stor]
    exact hK hg _ _ _ (hx05.trans x6) (ov5.sl.mono x6) (hed.mono x6)
def bW (e W : Int) : Int := if e = 0 then W else 0
def bL {α : Type} (e : Int) (l : List α) : List α := if e = 0 then l else []
theorem flow_CropU (hd : SlV H d D) (hp : EdV H p P) (hW : I64 W) (hQ : I64 Q) (hx : I64 x) (hy : I64 y) (hw : I64 w) (hh : I64 h) (hl : D.length ≤ 1000 ∧ P.length ≤ 1000) (hlim : lim ≤ H.length)
    (hK : ∀ H' d' p', HX H H' → SlV H' d' (bL (cropE W Q D P x y w h) (catR (cropD W.toNat D x.toNat y.toNat w.toNat) h.toNat)) → EdV H' p' (bL (cropE W Q D P x y w h) (cropP w h x y P P.length)) → K (.tup [.agg [.int .i64 (bW (cropE W Q D P x y w h) w), .int .i64 (bW (cropE W Q D P x y w h) h), d', p'], .int .i64 (cropE W Q D P x y w h)]) H') : VCall tbl lim 33 [.agg [.int .i64 W, .int .i64 Q, d, p], .int .i64 x, .int .i64 y, .int .i64 w, .int .i64 h] H K :=
  flow_Crop hd hp hW hQ hx hy hw hh hl hlim
    (fun hne H' hx => by have := hK H' .snil .snil hx (by simp only [bL, hne, if_false]; exact .nil) (by simp only [bL, hne, if_false]; exact ⟨.nil, by simp⟩); simpa [bW, hne] using this)
    (fun he H' d' p' hx h1 h2 => by have := hK H' d' p' hx (by simp only [bL, he, if_true]; exact h1) (by simp only [bL, he, if_true]; exact h2); simpa [bW, he] using this)
/-- the parts of two side by side -/
theorem bes_parts {W2 Q2 : Int} {D2 : List Int} {P2 : List Ed} (he : besE W Q D P W2 Q2 D2 P2 = 0) : ∃ w1 w2 q : Nat, W = w1 ∧ W2 = w2 ∧ Q = q ∧ Q2 = q ∧ PreF w1 q D P ∧ PreF w2 q D2 P2 ∧ (w1 : Int) + w2 ≤ 12 ∧
    cropE ((w1 : Int) + w2) q (catR (besD w1 w2 D D2) q) (P ++ P2.map (shEd w1 0)) 0 0 w1 q = 0 ∧ catR (cropD (w1 + w2) (catR (besD w1 w2 D D2) q) 0 0 w1) q = D ∧ cropP w1 q 0 0 (P ++ P2.map (shEd w1 0)) (P ++ P2.map (shEd w1 0)).length = P ∧
    cropE ((w1 : Int) + w2) q (catR (besD w1 w2 D D2) q) (P ++ P2.map (shEd w1 0)) w1 0 w2 q = 0 ∧ catR (cropD (w1 + w2) (catR (besD w1 w2 D D2) q) w1 0 w2) q = D2 ∧ cropP w2 q w1 0 (P ++ P2.map (shEd w1 0)) (P ++ P2.map (shEd w1 0)).length = P2 := by
  have v1 : validP W Q D P = 0 := by
    by_cases e : validP W Q D P = 0
    · exact e
    · simp [besE, e] at he
  have v2 : validP W2 Q2 D2 P2 = 0 := by
    by_cases e : validP W2 Q2 D2 P2 = 0
    · exact e
    · simp [besE, v1, e] at he
  have v3 : Q = Q2 := by
    by_cases e : Q = Q2
    · exact e
    · simp [besE, v1, v2, e] at he
  subst v3
  have v4 : ¬ 12 < W + W2 := by
    intro e
    simp [besE, v1, v2, e] at he
  obtain ⟨w1, q, rfl, rfl, hf⟩ := valid_pre v1
  obtain ⟨w2, q', rfl, eq, hf2⟩ := valid_pre v2
  have : q' = q := by omega
  subst this
  have b1 := hf.w1
  have b2 := hf2.w1
  have b3 := hf.q1
  have v5 : validP ((w1 : Int) + w2) q' (catR (besD w1 w2 D D2) q') (P ++ P2.map (shEd w1 0)) = 0 := by
    have := he
    simp only [besE, v1, v2, ne_eq, not_true_eq_false, if_false, v4, Int.toNat_natCast] at this
    exact this
  have n1 : D.length = q' * w1 := by
    have e : ((q' * w1 : Nat) : Int) = (w1 : Int) * q' := by simp [Int.mul_comm]
    have := hf.dl
    omega
  have n2 : D2.length = q' * w2 := by
    have e : ((q' * w2 : Nat) : Int) = (w2 : Int) * q' := by simp [Int.mul_comm]
    have := hf2.dl
    omega
  have ra : ∀ i, i < q' → ((D.drop (i * w1)).take w1).length = w1 := by
    intro i hi
    have m1 : (i + 1) * w1 ≤ q' * w1 := Nat.mul_le_mul_right _ (by omega)
    rw [Nat.add_mul, Nat.one_mul] at m1
    simp; omega
  have rb : ∀ i, i < q' → ((D2.drop (i * w2)).take w2).length = w2 := by
    intro i hi
    have m2 : (i + 1) * w2 ≤ q' * w2 := Nat.mul_le_mul_right _ (by omega)
    rw [Nat.add_mul, Nat.one_mul] at m2
    simp; omega
  have rl : ∀ i, i < q' → (besD w1 w2 D D2 i).length = w1 + w2 := by
    intro i hi; simp only [besD, List.length_append, ra i hi, rb i hi]
  have row := fun i hi => (catR_row (n := q') rl (i := i) hi).1
  have L : catR (cropD (w1 + w2) (catR (besD w1 w2 D D2) q') 0 0 w1) q' = D := by
    rw [catR_congr (g := fun y => (D.drop (y * w1)).take w1) fun i hi => ?_, catR_all q' (by omega), List.take_of_length_le (by omega)]
    simp only [cropD, Nat.zero_add, Nat.add_zero]
    have := row i hi
    have e : (List.drop (i * (w1 + w2)) (catR (besD w1 w2 D D2) q')).take w1 = ((List.drop (i * (w1 + w2)) (catR (besD w1 w2 D D2) q')).take (w1 + w2)).take w1 := by rw [List.take_take]; congr 1; omega
    rw [e, this]
    simp only [besD]
    rw [List.take_append_of_le_length (by rw [ra i hi]; omega), List.take_of_length_le (by rw [ra i hi]; omega)]
  have R : catR (cropD (w1 + w2) (catR (besD w1 w2 D D2) q') w1 0 w2) q' = D2 := by
    rw [catR_congr (g := fun y => (D2.drop (y * w2)).take w2) fun i hi => ?_, catR_all q' (by omega), List.take_of_length_le (by omega)]
    simp only [cropD, Nat.zero_add]
    have := row i hi
    have e : (List.drop (i * (w1 + w2) + w1) (catR (besD w1 w2 D D2) q')).take w2 = (((List.drop (i * (w1 + w2)) (catR (besD w1 w2 D D2) q')).take (w1 + w2)).drop w1).take w2 := by
      rw [List.drop_take, List.take_take, List.drop_drop]; congr 1; omega
    rw [e, this]
    simp only [besD]
    rw [List.drop_append_of_le_length (by rw [ra i hi]; omega), List.drop_of_length_le (by rw [ra i hi]; omega), List.nil_append, List.take_of_length_le (by rw [rb i hi]; omega)]
  have pe1 : ∀ i, i < P.length → isEB w1 q' (P.getD i default).x (P.getD i default).y (P.getD i default).u = true := fun i hi => by
    have := hf.po i hi
    simp only [pOk, Bool.and_eq_true] at this
    exact this.1
  have pe2 : ∀ i, i < P2.length → isEB w2 q' (P2.getD i default).x (P2.getD i default).y (P2.getD i default).u = true := fun i hi => by
    have := hf2.po i hi
    simp only [pOk, Bool.and_eq_true] at this
    exact this.1
  have gm : ∀ i, i < P2.length → (P2.map (shEd w1 0)).getD i default = shEd w1 0 (P2.getD i default) := fun i hi => by
    simp [List.getD_eq_getElem?_getD, hi]
  have PL : cropP w1 q' 0 0 (P ++ P2.map (shEd w1 0)) (P ++ P2.map (shEd w1 0)).length = P := by
    rw [List.length_append, cropP_app _ (Nat.le_refl _), cropP_all (fun i hi => by simpa using pe1 i hi) _ (Nat.le_refl _), List.take_length, shEd_0, cropP_none (fun i hi => ?_) _ (Nat.le_refl _), List.append_nil]
    have hi : i < P2.length := by simpa using hi
    rw [gm i hi]
    have q9 := pe2 i hi
    show isEB w1 q' ((P2.getD i default).x + w1 - 0) ((P2.getD i default).y + 0 - 0) (P2.getD i default).u = false
    simp only [isEB, decide_eq_true_eq] at q9
    simp only [isEB, decide_eq_false_iff_not]
    omega
  have PR : cropP w2 q' w1 0 (P ++ P2.map (shEd w1 0)) (P ++ P2.map (shEd w1 0)).length = P2 := by
    rw [List.length_append, cropP_app _ (Nat.le_refl _), cropP_none (fun i hi => ?_) _ (Nat.le_refl _), cropP_all (fun i hi => ?_) _ (Nat.le_refl _), List.take_length, List.nil_append, List.map_map]
    · have : (shEd (-(w1 : Int)) (-0) ∘ shEd w1 0) = id := by
        funext e; cases e; simp only [Function.comp, shEd, id]; congr 1 <;> omega
      rw [this]; simp
    · have hi : i < P2.length := by simpa using hi
      rw [gm i hi]
      have q9 := pe2 i hi
      show isEB w2 q' ((P2.getD i default).x + w1 - w1) ((P2.getD i default).y + 0 - 0) (P2.getD i default).u = true
      simp only [isEB, decide_eq_true_eq] at q9 ⊢
      omega
    · have q9 := pe1 i hi
      simp only [isEB, decide_eq_true_eq] at q9
      simp only [isEB, decide_eq_false_iff_not]
      omega
  have t12 : ((w1 : Int) + w2).toNat = w1 + w2 := by omega
  refine ⟨w1, w2, q', rfl, rfl, rfl, eq, hf, hf2, by omega, ?_, L, PL, ?_, R, PR⟩
  · have ok : cropOk ((w1 : Int) + w2) q' 0 0 w1 q' := by unfold cropOk; omega
    simp only [cropE, v5, ok, ne_eq, not_true_eq_false, if_false, t12, Int.toNat_natCast, Int.toNat_zero, L, PL, v1]
  · have ok : cropOk ((w1 : Int) + w2) q' w1 0 w2 q' := by unfold cropOk; omega
    simp only [cropE, v5, ok, ne_eq, not_true_eq_false, if_false, t12, Int.toNat_natCast, Int.toNat_zero, R, PR, v2]
theorem valid_len (hv : validP W Q D P = 0) : D.length ≤ 1000 ∧ P.length ≤ 1000 := by
  obtain ⟨w1, q1, rfl, rfl, hf⟩ := valid_pre hv
  have m := mul_bd (a := (w1 : Int)) (b := (q1 : Int)) (A := 12) (B := 12) (by have := hf.w1; omega) (by have := hf.q1; omega)
  have := hf.dl
  have := hf.pl
  omega
theorem bes_len {W2 Q2 : Int} {D2 : List Int} {P2 : List Ed} : (bL (besE W Q D P W2 Q2 D2 P2) (catR (besD W.toNat W2.toNat D D2) Q.toNat)).length ≤ 1000 ∧ (bL (besE W Q D P W2 Q2 D2 P2) (P ++ P2.map (shEd W 0))).length ≤ 1000 := by
  by_cases he : besE W Q D P W2 Q2 D2 P2 = 0
  · simp only [bL, he, if_true]
    have he' := he
    simp only [besE] at he'
    split at he'
    · contradiction
    split at he'
    · contradiction
    split at he'
    · omega
    split at he'
    · omega
    · exact valid_len he'
  · simp [bL, he]
theorem crop_len : (bL (cropE W Q D P x y w h) (catR (cropD W.toNat D x.toNat y.toNat w.toNat) h.toNat)).length ≤ 1000 ∧ (bL (cropE W Q D P x y w h) (cropP w h x y P P.length)).length ≤ 1000 := by
  by_cases he : cropE W Q D P x y w h = 0
  · simp only [bL, he, if_true]
    have he' := he
    simp only [cropE] at he'
    split at he'
    · contradiction
    split at he'
    · omega
    · exact valid_len he'
  · simp [bL, he]
end
end Go.Proofs.YtjchpgkibhdoiaaDoor.Vm

namespace Go.Proofs.YtjchpgkibhdoiaaDoor.Vm
open Go
set_option maxRecDepth 100000
set_option linter.unusedSimpArgs false
set_option linter.unusedVariables false
attribute [-simp] List.getD_eq_getElem?_getD
/-- how keys stand -/
structure KeyE (α : Type) [DecidableEq α] where
  kv : α → V
  g : Bool
  ks : List CK
  agg : ∀ a, isAggV (kv a) = g
  eq : ∀ a b, eqCells ks (cellsV (kv a)) (cellsV (kv b)) = some (decide (a = b))
  st : ∀ a, stor (kv a) = true
section
variable {α β : Type} [DecidableEq α]
/-- the place and the value of a key -/
def lkI (a : α) : List (α × β) → Option (Nat × β)
  | [] => none
  | p :: r => if a = p.1 then some (0, p.2) else (lkI a r).map fun q => (q.1 + 1, q.2)
def look (a : α) (l : List (α × β)) : Option β := (lkI a l).map fun q => q.2
def putA (a : α) (u : β) (l : List (α × β)) : List (α × β) := match lkI a l with
  | some q => l.set q.1 (a, u)
  | none => l ++ [(a, u)]
theorem lkI_set {a : α} {u : β} : ∀ {l : List (α × β)} {i : Nat} {v : β}, lkI a l = some (i, v) → i < l.length ∧ lkI a (l.set i (a, u)) = some (i, u) ∧ ∀ b, b ≠ a → (lkI b (l.set i (a, u))) = lkI b l
  | [], i, v, h => by simp [lkI] at h
  | p :: l, i, v, h => by
    simp only [lkI] at h
    split at h
    · rename_i e
      cases h
      refine ⟨by simp, by simp [lkI], fun b hb => ?_⟩
      simp only [List.set_cons_zero, lkI]
      rw [if_neg hb, if_neg (by rw [← e]; exact hb)]
    · rename_i e
      cases hm : lkI a l with
      | none => rw [hm] at h; cases h
      | some q =>
        rw [hm] at h
        simp only [Option.map_some, Option.some.injEq, Prod.mk.injEq] at h
        obtain ⟨rfl, rfl⟩ := h
        obtain ⟨h1, h2, h3⟩ := lkI_set (u := u) (i := q.1) (v := q.2) hm
        refine ⟨by simp; exact h1, ?_, fun b hb => ?_⟩
        · simp only [List.set_cons_succ, lkI]
          rw [if_neg e, h2]; rfl
        · simp only [List.set_cons_succ, lkI, h3 b hb]
theorem lkI_push {a : α} {u : β} : ∀ {l : List (α × β)}, lkI a l = none → lkI a (l ++ [(a, u)]) = some (l.length, u) ∧ ∀ b, b ≠ a → lkI b (l ++ [(a, u)]) = lkI b l
  | [], _ => ⟨by simp [lkI], fun b hb => by simp [lkI, hb]⟩
  | p :: l, h => by
    simp only [lkI] at h
    split at h
    · cases h
    · rename_i e
      have hm : lkI a l = none := by
        cases hm : lkI a l with
        | none => rfl
        | some q => rw [hm] at h; cases h
      obtain ⟨h1, h2⟩ := lkI_push (u := u) hm
      refine ⟨?_, fun b hb => ?_⟩
      · simp only [List.cons_append, lkI]
        rw [if_neg e, h1]; rfl
      · simp only [List.cons_append, lkI, h2 b hb]
theorem look_put {a b : α} {u : β} {l : List (α × β)} : look b (putA a u l) = if b = a then some u else look b l := by
  unfold look putA
  cases hm : lkI a l with
  | none =>
    obtain ⟨h1, h2⟩ := lkI_push (u := u) hm
    by_cases e : b = a
    · subst e; rw [if_pos rfl]; simp only [h1]; rfl
    · rw [if_neg e]; simp only [h2 b e]
  | some q =>
    obtain ⟨_, h1, h2⟩ := lkI_set (u := u) (i := q.1) (v := q.2) hm
    by_cases e : b = a
    · subst e; rw [if_pos rfl]; simp only [h1]; rfl
    · rw [if_neg e]; simp only [h2 b e]
theorem look_nil {b : α} : look b ([] : List (α × β)) = none := rfl
/-- the map as the machine has it -/
def mE (K : KeyE α) (vc : β → V) (l : List (α × β)) : List (V × V) := l.map fun p => (K.kv p.1, vc p.2)
theorem mE_len {K : KeyE α} {vc : β → V} {l : List (α × β)} : (mE K vc l).length = l.length := by simp [mE]
theorem mE_set {K : KeyE α} {vc : β → V} {l : List (α × β)} {i : Nat} {a : α} {u : β} : (mE K vc l).set i (K.kv a, vc u) = mE K vc (l.set i (a, u)) := by simp [mE, List.map_set]
theorem mE_push {K : KeyE α} {vc : β → V} {l : List (α × β)} {a : α} {u : β} : mE K vc l ++ [(K.kv a, vc u)] = mE K vc (l ++ [(a, u)]) := by simp [mE]
theorem mE_nil {K : KeyE α} {vc : β → V} : mE K vc [] = [] := rfl
theorem mfindE {K : KeyE α} {vc : β → V} {a : α} : ∀ {l : List (α × β)}, mfind K.ks (K.kv a) (mE K vc l) = some ((lkI a l).map fun q => (q.1, vc q.2))
  | [] => rfl
  | p :: l => by
    have ih := mfindE (K := K) (vc := vc) (a := a) (l := l)
    have hc : mE K vc (p :: l) = (K.kv p.1, vc p.2) :: mE K vc l := rfl
    have hq : (if isAggV (K.kv a) == isAggV (K.kv p.1) then eqCells K.ks (cellsV (K.kv a)) (cellsV (K.kv p.1)) else none) = some (decide (a = p.1)) := by
      rw [K.agg, K.agg, K.eq]; simp
    rw [hc]
    simp only [mfind, lkI]
    rw [hq, ih]
    by_cases e : a = p.1
    · rw [if_pos e]; simp [e]
    · rw [if_neg e]
      simp only [e, decide_false]
      cases lkI a l <;> rfl
theorem keyOkE {K : KeyE α} {a : α} : keyOk K.g K.ks (K.kv a) = true := by
  unfold keyOk
  rw [K.agg, K.st, K.eq]; simp
section
variable {lim : Nat} {H : Hp} {K : KeyE α} {vc : β → V} {l : List (α × β)} {a : α} {u z : β} {b : Nat}
theorem vmgetE (hb : H[b]? = some (.map (mE K vc l))) : vmget K.g K.ks false (vc z) H (.mp b) (K.kv a) = some (vc ((look a l).getD z)) := by
  simp only [vmget, hb, keyOkE, if_true, mfindE, look]
  cases lkI a l <;> rfl
theorem vmputE (hb : H[b]? = some (.map (mE K vc l))) (hlim : lim ≤ b) (hu : stor (vc u) = true) : vmput lim K.g K.ks H (.mp b) (K.kv a) (vc u) = some (H.set b (.map (mE K vc (putA a u l)))) := by
  simp only [vmput, hlim, hb, keyOkE, hu, Bool.and_self, if_true, mfindE, putA]
  cases lkI a l with
  | none => simp only [Option.map_none, mE_push]
  | some q => simp only [Option.map_some, mE_set]
/-- where the entry of a key stands, and the map with it -/
def entI (a : α) (l : List (α × β)) : Nat := match lkI a l with
  | some q => q.1
  | none => l.length
theorem vmentE (hb : H[b]? = some (.map (mE K vc l))) (hlim : lim ≤ b) (hz : stor (vc z) = true) : vment lim K.g K.ks (vc z) H (.mp b) (K.kv a) = some (.tup [vc ((look a l).getD z), .int .i64 (entI a l)], H.set b (.map (mE K vc (putA a ((look a l).getD z) l)))) := by
  simp only [vment, hlim, hb, keyOkE, hz, Bool.and_self, if_true, mfindE, putA, look, entI]
  cases hq : lkI a l with
  | none => simp only [Option.map_none, Option.getD_none, mE_push, mE_len]
  | some q => simp only [Option.map_some, Option.getD_some, mE_set]
theorem entI_put {v : β} : (putA a v l).set (entI a l) (a, u) = putA a u l ∧ (putA a v l)[entI a l]? = some (a, v) := by
  unfold putA entI
  cases hq : lkI a l with
  | none =>
    exact ⟨by simp, by simp⟩
  | some q =>
    obtain ⟨h1, _, _⟩ := lkI_set (u := u) (i := q.1) (v := q.2) hq
    exact ⟨by simp, by simp [h1]⟩
theorem vmestE {v : β} (hlt : b < H.length) (hlim : lim ≤ b) (hu : stor (vc u) = true) : vmest lim (H.set b (.map (mE K vc (putA a v l)))) (.mp b) (.int .i64 (entI a l)) (vc u) = some (H.set b (.map (mE K vc (putA a u l)))) := by
  obtain ⟨e1, e2⟩ := entI_put (a := a) (l := l) (u := u) (v := v)
  have hg : (mE K vc (putA a v l))[entI a l]? = some (K.kv a, vc v) := by simp [mE, e2]
  have hb : (H.set b (.map (mE K vc (putA a v l))))[b]? = some (.map (mE K vc (putA a v l))) := List.getElem?_set_self hlt
  simp only [vmest, hlim, hb, hu, if_true, Int.toNat_natCast, hg, mE_set, e1, List.set_set]
  simp
end
end
/-- keys that are numbers; that are pairs, triples of numbers -/
def kI : KeyE Int := ⟨fun a => .int .i64 a, false, [.int .i64], fun _ => rfl, fun a b => by simp [eqCells, eqCell, cellsV]; by_cases e : a = b <;> simp [e], fun _ => rfl⟩
def kI2 : KeyE (Int × Int) := ⟨fun a => .agg [.int .i64 a.1, .int .i64 a.2], true, [.int .i64, .int .i64], fun _ => rfl, fun a b => by
  obtain ⟨a1, a2⟩ := a
  obtain ⟨b1, b2⟩ := b
  simp only [eqCells, eqCell, cellsV, and_self, if_true, Bool.and_true, Option.some.injEq]
  by_cases e : a1 = b1 <;> by_cases e2 : a2 = b2 <;> simp [e, e2], fun _ => rfl⟩
def kI3 : KeyE (Int × Int × Int) := ⟨fun a => .agg [.int .i64 a.1, .int .i64 a.2.1, .int .i64 a.2.2], true, [.int .i64, .int .i64, .int .i64], fun _ => rfl, fun a b => by
  obtain ⟨a1, a2, a3⟩ := a
  obtain ⟨b1, b2, b3⟩ := b
  simp only [eqCells, eqCell, cellsV, and_self, if_true, Bool.and_true, Option.some.injEq]
  by_cases e : a1 = b1 <;> by_cases e2 : a2 = b2 <;> by_cases e3 : a3 = b3 <;> simp [e, e2, e3], fun _ => rfl⟩
theorem HX.setBM {H H' : Hp} (hx : HX H H') {b : Nat} (hb : H.length ≤ b) {x : Blk} : HX H (H'.set b x) :=
  .of (by have := hx.len; simpa using this) fun i hi => by rw [List.getElem?_set_ne (by omega)]; exact hx.same hi
end Go.Proofs.YtjchpgkibhdoiaaDoor.Vm

namespace Go.Proofs.YtjchpgkibhdoiaaDoor.Vm
open Go
set_option maxRecDepth 100000
set_option linter.unusedSimpArgs false
set_option linter.unusedVariables false
attribute [-simp] List.getD_eq_getElem?_getD
/-- sums over lists -/
def tS {α : Type} (f : α → Int) (l : List α) (i : Nat) : Int := ((l.take i).map f).sum
theorem tS_succ {α : Type} [Inhabited α] {f : α → Int} {l : List α} {i : Nat} (h : i < l.length) : tS f l (i + 1) = tS f l i + f (l.getD i default) := by
  unfold tS
  rw [List.take_add_one, List.getElem?_eq_getElem h, List.getD_eq_getElem?_getD, List.getElem?_eq_getElem h]
  simp only [List.map_append, List.sum_append, Option.toList_some, List.map_cons, List.map_nil, List.sum_cons, List.sum_nil, Int.add_zero, Option.getD_some]
theorem tS_zero {α : Type} {f : α → Int} {l : List α} : tS f l 0 = 0 := by simp [tS]
theorem tS_all {α : Type} {f : α → Int} {l : List α} : tS f l l.length = (l.map f).sum := by unfold tS; rw [List.take_length]
theorem tS_bd {α : Type} [Inhabited α] {f : α → Int} {l : List α} {B : Int} (hb : ∀ a ∈ l, -B ≤ f a ∧ f a ≤ B) : ∀ {i : Nat}, i ≤ l.length → -(B * i) ≤ tS f l i ∧ tS f l i ≤ B * i
  | 0, _ => by simp [tS]
  | i + 1, h => by
    have ih := tS_bd hb (i := i) (by omega)
    have := hb (l.getD i default) (by simp [List.getD_eq_getElem?_getD, show i < l.length by omega])
    rw [tS_succ (by omega)]
    have e : B * ((i + 1 : Nat) : Int) = B * i + B := by rw [Int.natCast_add, Int.mul_add]; simp
    omega
theorem sum_congrL {α : Type} {f g : α → Int} {l : List α} (h : ∀ a ∈ l, f a = g a) : (l.map f).sum = (l.map g).sum := by rw [List.map_congr_left h]
theorem sum_addL {α : Type} {f g : α → Int} : ∀ {l : List α}, (l.map fun a => f a + g a).sum = (l.map f).sum + (l.map g).sum
  | [] => rfl
  | a :: l => by simp only [List.map_cons, List.sum_cons, sum_addL (l := l)]; omega
theorem sum_zeroL {α : Type} {l : List α} : (l.map fun _ => (0 : Int)).sum = 0 := by
  induction l with
  | nil => rfl
  | cons a l ih => simp only [List.map_cons, List.sum_cons, ih]; rfl
/-- one of them alone -/
theorem sum_oneL {α : Type} [DecidableEq α] {f : α → Int} {a : α} : ∀ {l : List α}, l.Nodup → (l.map fun x => if x = a then f x else 0).sum = if a ∈ l then f a else 0
  | [], _ => by simp
  | x :: l, h => by
    obtain ⟨h1, h2⟩ := List.nodup_cons.1 h
    have ih := sum_oneL (f := f) (a := a) h2
    simp only [List.map_cons, List.sum_cons, ih]
    by_cases e : x = a
    · subst e
      rw [if_pos rfl, if_neg h1, if_pos (List.mem_cons_self ..)]; omega
    · rw [if_neg e]
      by_cases e2 : a ∈ l
      · rw [if_pos e2, if_pos (List.mem_cons_of_mem _ e2)]; omega
      · rw [if_neg e2, if_neg (by
          intro hh
          rcases List.mem_cons.1 hh with hh | hh
          · exact e hh.symm
          · exact e2 hh)]; omega
theorem upL_asc {w q x y : Nat} : ∀ u, (upL w q x y u).Pairwise bef ∧ ∀ e ∈ upL w q x y u, e.x = x ∧ e.y = y ∧ e.u < u
  | 0 => ⟨.nil, fun e he => by simp [upL] at he⟩
  | u + 1 => by
    obtain ⟨h1, h2⟩ := upL_asc (w := w) (q := q) (x := x) (y := y) u
    have h3 : ∀ e ∈ (if isEB w q x y u = true then [(⟨x, y, u⟩ : Ed)] else []), e = ⟨x, y, u⟩ := by
      intro e he
      split at he
      · simpa using he
      · simp at he
    refine ⟨List.pairwise_append.2 ⟨h1, ?_, fun a ha b hb => ?_⟩, fun e he => ?_⟩
    · split
      · exact List.pairwise_singleton _ _
      · exact .nil
    · have g := h2 a ha
      rw [h3 b hb]
      unfold bef; simp only; omega
    · rcases List.mem_append.1 he with he | he
      · have := h2 e he
        refine ⟨this.1, this.2.1, by omega⟩
      · rw [h3 e he]
        exact ⟨rfl, rfl, by show (u : Int) < ((u + 1 : Nat) : Int); omega⟩
theorem rowL_asc {w q x : Nat} : ∀ y, (rowL w q x y).Pairwise bef ∧ ∀ e ∈ rowL w q x y, e.x = x ∧ e.y < y
  | 0 => ⟨.nil, fun e he => by simp [rowL] at he⟩
  | y + 1 => by
    obtain ⟨h1, h2⟩ := rowL_asc (w := w) (q := q) (x := x) y
    obtain ⟨g1, g2⟩ := upL_asc (w := w) (q := q) (x := x) (y := y) 2
    refine ⟨List.pairwise_append.2 ⟨h1, g1, fun a ha b hb => ?_⟩, fun e he => ?_⟩
    · have a1 := h2 a ha
      have b1 := g2 b hb
      unfold bef; omega
    · rcases List.mem_append.1 he with he | he
      · have := h2 e he
        refine ⟨this.1, by omega⟩
      · have := g2 e he
        refine ⟨this.1, by omega⟩
theorem edL_asc {w q : Nat} : ∀ x, (edL w q x).Pairwise bef ∧ ∀ e ∈ edL w q x, e.x < x
  | 0 => ⟨.nil, fun e he => by simp [edL] at he⟩
  | x + 1 => by
    obtain ⟨h1, h2⟩ := edL_asc (w := w) (q := q) x
    obtain ⟨g1, g2⟩ := rowL_asc (w := w) (q := q) (x := x) q
    refine ⟨List.pairwise_append.2 ⟨h1, g1, fun a ha b hb => ?_⟩, fun e he => ?_⟩
    · have a1 := h2 a ha
      have b1 := g2 b hb
      unfold bef; omega
    · rcases List.mem_append.1 he with he | he
      · have := h2 e he
        omega
      · have := g2 e he
        omega
theorem edL_nodup {w q : Nat} : (edL w q w).Nodup := (edL_asc w).1.imp fun {a b} h e => by subst e; unfold bef at h; omega
theorem edL_memS {w q : Nat} {x y u : Int} (h : isEB w q x y u = true) : (⟨x, y, u⟩ : Ed) ∈ edL w q w := by
  have h0 := h
  simp only [isEB, decide_eq_true_eq] at h0
  obtain ⟨x, rfl⟩ := Int.eq_ofNat_of_zero_le (show 0 ≤ x by omega)
  obtain ⟨y, rfl⟩ := Int.eq_ofNat_of_zero_le (show 0 ≤ y by omega)
  have hx : x < w := by omega
  have hy : y < q := by omega
  have a1 : (⟨x, y, u⟩ : Ed) ∈ upL w q x y 2 := by
    rcases (show u = 0 ∨ u = 1 by omega) with rfl | rfl
    · simp [upL, h]
    · simp [upL, h]
  have a2 : ∀ n, y < n → (⟨x, y, u⟩ : Ed) ∈ rowL w q x n := by
    intro n hn
    induction n with
    | zero => omega
    | succ n ih =>
      simp only [rowL, List.mem_append]
      by_cases e : y = n
      · subst e; exact Or.inr a1
      · exact Or.inl (ih (by omega))
  have a3 : ∀ n, x < n → (⟨x, y, u⟩ : Ed) ∈ edL w q n := by
    intro n hn
    induction n with
    | zero => omega
    | succ n ih =>
      simp only [edL, List.mem_append]
      by_cases e : x = n
      · subst e; exact Or.inr (a2 q hy)
      · exact Or.inl (ih (by omega))
  exact a3 w hx
/-- the sides of a square -/
def sdE (s : Pl) : Nat → Ed
  | 0 => ⟨s.x, s.y, 0⟩
  | 1 => ⟨s.x + 1, s.y, 1⟩
  | 2 => ⟨s.x, s.y + 1, 0⟩
  | _ => ⟨s.x, s.y, 1⟩
def sdS : Nat → Int
  | 0 => 1
  | 1 => 1
  | _ => -1
/-- what the sides of a square add up to -/
def sqS (φ : Ed → Int) (s : Pl) : Nat → Int
  | 0 => 0
  | k + 1 => sqS φ s k + sdS k * φ (sdE s k)
theorem sqS_4 {φ : Ed → Int} {s : Pl} : sqS φ s 4 = φ (sdE s 0) + φ (sdE s 1) - φ (sdE s 2) - φ (sdE s 3) := by
  simp only [sqS, sdS]; omega
/-- the square on an edge's left, on its right -/
def leE (e : Ed) : Pl := if e.u = 1 then ⟨e.x - 1, e.y⟩ else ⟨e.x, e.y⟩
def riE (e : Ed) : Pl := if e.u = 1 then ⟨e.x, e.y⟩ else ⟨e.x, e.y - 1⟩
theorem pl_eq {a b : Pl} : a = b ↔ a.x = b.x ∧ a.y = b.y := by
  cases a; cases b; simp
theorem ed_eq {a b : Ed} : a = b ↔ a.x = b.x ∧ a.y = b.y ∧ a.u = b.u := by
  cases a; cases b; simp
theorem le_sd {e : Ed} {s : Pl} (hu : e.u = 0 ∨ e.u = 1) : leE e = s ↔ e = sdE s 0 ∨ e = sdE s 1 := by
  obtain ⟨x, y, u⟩ := e
  obtain ⟨a, b⟩ := s
  have e0 : sdE ⟨a, b⟩ 0 = ⟨a, b, 0⟩ := rfl
  have e1 : sdE ⟨a, b⟩ 1 = ⟨a + 1, b, 1⟩ := rfl
  simp only at hu
  rcases hu with rfl | rfl
  · have : leE ⟨x, y, 0⟩ = ⟨x, y⟩ := by simp [leE]
    rw [this, e0, e1]; simp only [Pl.mk.injEq, Ed.mk.injEq, and_true]; constructor <;> intro h <;> omega
  · have : leE ⟨x, y, 1⟩ = ⟨x - 1, y⟩ := by simp [leE]
    rw [this, e0, e1]; simp only [Pl.mk.injEq, Ed.mk.injEq, and_true]; constructor <;> intro h <;> omega
theorem ri_sd {e : Ed} {s : Pl} (hu : e.u = 0 ∨ e.u = 1) : riE e = s ↔ e = sdE s 2 ∨ e = sdE s 3 := by
  obtain ⟨x, y, u⟩ := e
  obtain ⟨a, b⟩ := s
  have e0 : sdE ⟨a, b⟩ 2 = ⟨a, b + 1, 0⟩ := rfl
  have e1 : sdE ⟨a, b⟩ 3 = ⟨a, b, 1⟩ := rfl
  simp only at hu
  rcases hu with rfl | rfl
  · have : riE ⟨x, y, 0⟩ = ⟨x, y - 1⟩ := by simp [riE]
    rw [this, e0, e1]; simp only [Pl.mk.injEq, Ed.mk.injEq, and_true]; constructor <;> intro h <;> omega
  · have : riE ⟨x, y, 1⟩ = ⟨x, y⟩ := by simp [riE]
    rw [this, e0, e1]; simp only [Pl.mk.injEq, Ed.mk.injEq, and_true]; constructor <;> intro h <;> omega
theorem ind4 {A B C D : Prop} [Decidable A] [Decidable B] [Decidable C] [Decidable D] {t : Int} (h1 : ¬ (A ∧ B)) (h2 : ¬ (C ∧ D)) :
    t * ((if A ∨ B then 1 else 0) - (if C ∨ D then 1 else 0)) = ((if A then t else 0) + (if B then t else 0)) + ((if C then -t else 0) + (if D then -t else 0)) := by
  by_cases a : A <;> by_cases b : B <;> by_cases c : C <;> by_cases d : D <;> simp_all <;> omega
/-- an indicator -/
def ib (p : Prop) [Decidable p] : Int := if p then 1 else 0
/-- the edges of one square -/
theorem one_sq {w q : Nat} {φ : Ed → Int} {s : Pl} (hs : isSB w q s.x s.y = true) : ((edL w q w).map fun e => φ e * (ib (leE e = s) - ib (riE e = s))).sum = sqS φ s 4 := by
  obtain ⟨e0, e1, e2, e3⟩ := isSB_ed hs
  have nd := edL_nodup (w := w) (q := q)
  have ok := edL_ok (w := w) (q := q) w
  have h : ∀ e ∈ edL w q w, φ e * (ib (leE e = s) - ib (riE e = s)) =
      ((if e = sdE s 0 then φ e else 0) + (if e = sdE s 1 then φ e else 0)) + ((if e = sdE s 2 then (fun e => - φ e) e else 0) + (if e = sdE s 3 then (fun e => - φ e) e else 0)) := by
    intro e he
    have hu := isEB_u (ok e he)
    have n01 : ¬ (e = sdE s 0 ∧ e = sdE s 1) := by
      rintro ⟨h1, h2⟩
      have := congrArg Ed.u (h1.symm.trans h2)
      simp [sdE] at this
    have n23 : ¬ (e = sdE s 2 ∧ e = sdE s 3) := by
      rintro ⟨h1, h2⟩
      have := congrArg Ed.u (h1.symm.trans h2)
      simp [sdE] at this
    have := ind4 (t := φ e) n01 n23
    rw [← this]
    unfold ib
    simp only [le_sd hu, ri_sd hu]
  rw [sum_congrL h, sum_addL, sum_addL, sum_addL, sum_oneL nd, sum_oneL nd, sum_oneL nd, sum_oneL nd, if_pos (show sdE s 0 ∈ _ from edL_memS e0), if_pos (show sdE s 1 ∈ _ from edL_memS e1), if_pos (show sdE s 2 ∈ _ from edL_memS e2), if_pos (show sdE s 3 ∈ _ from edL_memS e3), sqS_4]
  simp only [sdE]; omega
/-- the edges of squares, each of which is there once -/
theorem all_sq {w q : Nat} {φ : Ed → Int} : ∀ {S : List Pl}, (∀ s ∈ S, isSB w q s.x s.y = true) → S.Nodup → ((edL w q w).map fun e => φ e * (ib (leE e ∈ S) - ib (riE e ∈ S))).sum = (S.map fun s => sqS φ s 4).sum
  | [], _, _ => by
    rw [sum_congrL (g := fun _ => 0) fun e _ => by simp [ib]]
    rw [sum_zeroL]; rfl
  | s :: S, h, hn => by
    obtain ⟨h1, h2⟩ := List.nodup_cons.1 hn
    have ih := all_sq (φ := φ) (fun t ht => h t (List.mem_cons_of_mem _ ht)) h2
    have o := one_sq (φ := φ) (h s (List.mem_cons_self ..))
    simp only [List.map_cons, List.sum_cons]
    rw [← ih, ← o, ← sum_addL]
    refine sum_congrL fun e _ => ?_
    have key : ∀ t : Pl, ib (t ∈ s :: S) = ib (t = s) + ib (t ∈ S) := by
      intro t
      unfold ib
      by_cases a : t = s
      · subst a; simp [h1]
      · simp [a]
    rw [key, key, ← Int.mul_add]
    congr 1; omega
/-- how often an edge is a side -/
def useS (e : Ed) (s : Pl) : Nat → Int
  | 0 => 0
  | k + 1 => useS e s k + if sdE s k = e then 1 else 0
def useN (S : List Pl) (e : Ed) : Int := (S.map fun s => useS e s 4).sum
theorem useN_eq {S : List Pl} (hn : S.Nodup) {e : Ed} (hu : e.u = 0 ∨ e.u = 1) : useN S e = ib (leE e ∈ S) + ib (riE e ∈ S) := by
  have h4 : ∀ s, useS e s 4 = ib (leE e = s) + ib (riE e = s) := by
    intro s
    have n01 : ¬ (sdE s 0 = e ∧ sdE s 1 = e) := by
      rintro ⟨h1, h2⟩
      have := congrArg Ed.u (h1.trans h2.symm)
      simp [sdE] at this
    have n23 : ¬ (sdE s 2 = e ∧ sdE s 3 = e) := by
      rintro ⟨h1, h2⟩
      have := congrArg Ed.u (h1.trans h2.symm)
      simp [sdE] at this
    simp only [useS]
    unfold ib
    simp only [le_sd hu, ri_sd hu, eq_comm (a := e)]
    by_cases a : sdE s 0 = e <;> by_cases b : sdE s 1 = e <;> by_cases c : sdE s 2 = e <;> by_cases d : sdE s 3 = e <;> simp_all
  unfold useN
  rw [sum_congrL fun s _ => h4 s, sum_addL]
  have : ∀ {T : List Pl} {t : Pl}, T.Nodup → (T.map fun s => ib (t = s)).sum = ib (t ∈ T) := by
    intro T t hT
    have := sum_oneL (f := fun _ => (1 : Int)) (a := t) hT
    unfold ib
    rw [← this]
    refine sum_congrL fun s _ => ?_
    simp only [eq_comm (a := t)]
  rw [this hn, this hn]
/-- the rim tells what is inside -/
theorem rim_in {w q : Nat} {c : Ed → Int} {S : List Pl} (h : ∀ s ∈ S, isSB w q s.x s.y = true) (hn : S.Nodup) :
    ((edL w q w).map fun e => c e * (ib (leE e ∈ S) - ib (riE e ∈ S))).sum = (S.map fun s => sqS c s 4).sum ∧
    (S.map fun s => sqS (fun e => if useN S e = 1 then c e else 0) s 4).sum = (S.map fun s => sqS c s 4).sum := by
  have a := all_sq (φ := c) h hn
  have b := all_sq (φ := fun e => if useN S e = 1 then c e else 0) h hn
  refine ⟨a, ?_⟩
  rw [← a, ← b]
  refine sum_congrL fun e he => ?_
  have hu := isEB_u (edL_ok (w := w) (q := q) w e he)
  simp only [useN_eq hn hu]
  unfold ib
  by_cases l : leE e ∈ S <;> by_cases r : riE e ∈ S <;> simp [l, r]
end Go.Proofs.YtjchpgkibhdoiaaDoor.Vm

namespace Go.Proofs.YtjchpgkibhdoiaaDoor.Vm
open Go
set_option maxRecDepth 100000
set_option maxHeartbeats 1000000
set_option linter.unusedSimpArgs false
set_option linter.unusedVariables false
attribute [-simp] List.getD_eq_getElem?_getD
def sqOk (W Q : Int) (S : List Pl) (i : Nat) : Bool := isSB W Q (S.getD i default).x (S.getD i default).y
def newOk (S : List Pl) (i : Nat) : Bool := !decide (S.getD i default ∈ S.take i)
def regE (W Q : Int) (D : List Int) (P : List Ed) (S : List Pl) : Int :=
  if validP W Q D P ≠ 0 then validP W Q D P else if allN (sqOk W Q S) S.length = false then 5 else if allN (newOk S) S.length = false then 7 else 0
theorem take_mem {S : List Pl} {i : Nat} (h : i < S.length) : S.take (i + 1) = S.take i ++ [S.getD i default] := by
  rw [List.take_add_one, List.getElem?_eq_getElem h]; simp [List.getD_eq_getElem?_getD, h]
theorem regE_ok {W Q : Int} {D : List Int} {P : List Ed} {S : List Pl} (h : regE W Q D P S = 0) : ∃ w q : Nat, W = w ∧ Q = q ∧ PreF w q D P ∧ validP W Q D P = 0 ∧ (∀ s ∈ S, isSB W Q s.x s.y = true) ∧ S.Nodup := by
  unfold regE at h
  split at h
  · rename_i h1; exact absurd h h1
  rename_i h1
  split at h
  · omega
  rename_i h2
  split at h
  · omega
  rename_i h3
  have h1 : validP W Q D P = 0 := by omega
  obtain ⟨w, q, rfl, rfl, hf⟩ := valid_pre h1
  refine ⟨w, q, rfl, rfl, hf, h1, fun s hs => ?_, ?_⟩
  · obtain ⟨i, hi, rfl⟩ := List.mem_iff_getElem.1 hs
    have := allN_at (by simpa using h2) hi
    simpa [sqOk, List.getD_eq_getElem?_getD, hi] using this
  · refine List.pairwise_iff_getElem.2 fun i j hi hj hij e => ?_
    have := allN_at (by simpa using h3) hj
    simp only [newOk, Bool.not_eq_true', decide_eq_false_iff_not, List.getD_eq_getElem?_getD, List.getElem?_eq_getElem hj, Option.getD_some] at this
    exact this (by rw [← e]; exact List.mem_take_iff_getElem.2 ⟨i, by omega, rfl⟩)
section
variable {lim : Nat} {H : Hp} {K : V → Hp → Prop} {v d p sv : V} {D : List Int} {P : List Ed} {S : List Pl} {W Q x y u : Int} {w q : Nat}
theorem flow_validateSquares (hd : SlV H d D) (hp : EdV H p P) (hs : LstV plC H sv S) (hW : I64 W) (hQ : I64 Q) (hl : D.length ≤ 1000 ∧ P.length ≤ 1000) (hn : S.length ≤ 200) (hlim : lim ≤ H.length)
    (hK : ∀ H', HX H H' → K (.int .i64 (regE W Q D P S)) H') : VCall tbl lim 67 [.agg [.int .i64 W, .int .i64 Q, d, p], sv] H K := by
  refine VCall_fn tbl_at67 rfl ?_
  simp [vf67, hd.stor, hp.stor]
  refine flow_Validate hd hp hW hQ hl hlim fun H1 x1 => ?_
  replace x1 : HX H H1 := x1
  have l1 := x1.len
  simp
  refine cond_ndec (fun h => ?_) fun h => ?_
  · have := hK _ x1
    simp only [regE, ne_eq, h, not_false_eq_true, if_true] at this
    simp
    exact this
  obtain ⟨w, q, rfl, rfl, hf⟩ := valid_pre h
  have hw1 := hf.w1
  have hq1 := hf.q1
  have eR : regE w q D P S = if allN (sqOk w q S) S.length = false then 5 else if allN (newOk S) S.length = false then 7 else 0 := by simp [regE, h]
  rw [eR] at hK
  clear eR
  have hs1 := hs.mono x1
  simp [hs.len]
  refine wLoop_up S.length (fun i fr L H' => ∃ X, (fr 1 = sv ∧ fr 2 = .lp 0 0 ∧ fr 16 = sv ∧ fr 17 = .int .i64 S.length ∧ fr 18 = .int .i64 i) ∧ L = [.int .i64 w, .int .i64 q, d, p] :: X ∧ H' = H1 ∧ allN (sqOk w q S) i = true) ⟨[], by simp [hs.len], rfl, rfl, rfl⟩ ?_
  rintro i hi fr L H' ⟨X, ⟨f1, f2, f16, f17, f18⟩, rfl, e0, hok⟩
  have e0 := e0.symm
  subst e0
  simp [f1, f2, f16, f17, f18]
  refine cond_dec (fun ht => ?_) fun hfl => ?_
  · have ht : i < S.length := by omega
    have hat := hs1.at ht
    have hld := fun (L : Lo) => hs1.load (L := L) ht
    have hsq : sqOk w q S i = isSB w q (S.getD i default).x (S.getD i default).y := rfl
    generalize hse : S.getD i default = s at *
    simp (disch := omega) [f1, f2, f16, f17, f18, hat, hld, plC, Pl.cells, lastO, lastS, hd.stor, hp.stor]
    refine flow_isSquare hd.stor hp.stor (by omega) (by omega) ?_
    rw [isSB_w, ← hsq]
    cases hq : sqOk w q S i with
    | false =>
      have := allN_not ht hq
      simp only [this, if_true] at hK
      simp
      exact hK _ x1
    | true =>
      simp (disch := omega) [f1, f2, f16, f17, f18, wrap_i64, allN, hok, hq]
      omega
  have hi2 : S.length = i := by omega
  subst hi2
  simp only [hok, Bool.true_eq_false, if_false] at hK
  simp [f1, f2, hs.len]
  clear f16 f17 f18
  refine wLoop_up S.length (fun i fr L H' => ∃ X l, (fr 8 = .mp H1.length ∧ fr 31 = sv ∧ fr 32 = .int .i64 S.length ∧ fr 33 = .int .i64 i) ∧ L = X ∧ H' = H1 ++ [.map (mE kI2 V.bool l)] ∧ (∀ a : Int × Int, (look a l).getD false = decide (∃ s ∈ S.take i, (s.x, s.y) = a)) ∧ allN (newOk S) i = true) ⟨_, [], by simp [f1, hs.len], rfl, by simp [mE], by simp [look, lkI], rfl⟩ ?_
  clear f1 f2 X
  rintro i hi fr L H2 ⟨X, l, ⟨f8, f31, f32, f33⟩, e1, e2, hlk, hnw⟩
  have e1 := e1.symm
  subst e1
  simp [f8, f31, f32, f33]
  refine cond_dec (fun ht => ?_) fun hfl => ?_
  · have ht : i < S.length := by omega
    have x2 : HX H1 H2 := by rw [e2]; exact .push
    have hs2 := hs1.mono x2
    have hat := hs2.at ht
    have hld := fun (L : Lo) => hs2.load (L := L) ht
    have hmem : newOk S i = !decide (S.getD i default ∈ S.take i) := rfl
    have htk := take_mem ht
    generalize hse : S.getD i default = s at *
    have hb : H2[H1.length]? = some (.map (mE kI2 V.bool l)) := by rw [e2]; simp
    have hg : vmget true [.int .i64, .int .i64] false (.bool false) H2 (.mp H1.length) (.agg [.int .i64 s.x, .int .i64 s.y]) = some (.bool ((look (s.x, s.y) l).getD false)) := vmgetE (K := kI2) (vc := V.bool) (z := false) (a := (s.x, s.y)) hb
    have hpu : vmput lim true [.int .i64, .int .i64] H2 (.mp H1.length) (.agg [.int .i64 s.x, .int .i64 s.y]) (.bool true) = some (H2.set H1.length (.map (mE kI2 V.bool (putA (s.x, s.y) true l)))) := vmputE (K := kI2) (vc := V.bool) (u := true) (a := (s.x, s.y)) hb (by omega) rfl
    have hin : (look (s.x, s.y) l).getD false = decide (s ∈ S.take i) := by
      rw [hlk, decide_eq_decide]
      constructor
      · rintro ⟨t, ht, e⟩
        have : t = s := by
          rw [pl_eq]
          simp only [Prod.mk.injEq] at e
          exact e
        rw [← this]; exact ht
      · intro h; exact ⟨s, h, rfl⟩
    rw [hin] at hg
    simp (disch := omega) [f8, f31, f32, f33, hat, hld, plC, Pl.cells, lastO, lastS, hg]
    cases hq : decide (s ∈ S.take i) with
    | true =>
      have := allN_not (f := newOk S) ht (by rw [hmem, hq]; rfl)
      simp only [this, if_true] at hK
      simp
      exact hK _ (x1.trans x2)
    | false =>
      have hset : H2.set H1.length (.map (mE kI2 V.bool (putA (s.x, s.y) true l))) = H1 ++ [.map (mE kI2 V.bool (putA (s.x, s.y) true l))] := by rw [e2]; simp
      rw [hset] at hpu
      simp (disch := omega) [f8, f31, f32, f33, lastO, lastS, hpu, wrap_i64, allN, hnw, hmem, hq]
      refine ⟨by omega, _, rfl, fun a1 a2 => ?_⟩
      rw [look_put]
      by_cases e : ((a1, a2) : Int × Int) = (s.x, s.y)
      · rw [if_pos e]
        simp only [Option.getD_some]
        symm
        rw [decide_eq_true_eq]
        simp only [Prod.mk.injEq] at e
        exact ⟨s, by rw [htk]; simp, e.1.symm, e.2.symm⟩
      · rw [if_neg e, hlk, decide_eq_decide]
        rw [htk]
        simp only [Prod.mk.injEq] at e
        constructor
        · rintro ⟨t, h1, h2⟩
          simp only [Prod.mk.injEq] at h2
          exact ⟨t, List.mem_append_left _ h1, h2⟩
        · rintro ⟨t, h1, h2⟩
          rcases List.mem_append.1 h1 with h1 | h1
          · exact ⟨t, h1, by simp only [Prod.mk.injEq]; exact h2⟩
          · simp at h1; subst h1; exact absurd ⟨h2.1.symm, h2.2.symm⟩ e
  have hi2 : S.length = i := by omega
  subst hi2
  simp only [hnw, Bool.true_eq_false, if_false] at hK
  simp
  exact hK _ (x1.trans (by rw [e2]; exact .push))
end
end Go.Proofs.YtjchpgkibhdoiaaDoor.Vm

namespace Go.Proofs.YtjchpgkibhdoiaaDoor.Vm
open Go
set_option maxRecDepth 100000
set_option maxHeartbeats 1000000
set_option linter.unusedSimpArgs false
set_option linter.unusedVariables false
attribute [-simp] List.getD_eq_getElem?_getD
def tnE (w : Nat) (D : List Int) (P : List Ed) (e : Ed) : Int := tnP w D P e.x e.y e.u
def idxS (w : Nat) (D : List Int) (P : List Ed) (s : Pl) : Int := (rndP w D P s.x s.y).tdiv 4
theorem sqS_rnd {w : Nat} {D : List Int} {P : List Ed} {s : Pl} : sqS (tnE w D P) s 4 = rndP w D P s.x s.y := by rw [sqS_4]; rfl
theorem PreF.rnd4 {w q : Nat} {D : List Int} {P : List Ed} (h : PreF w q D P) (x y : Int) : rndP w D P x y = 4 * (rndP w D P x y).tdiv 4 := by
  have a1 : (y + 1) * (w : Int) = y * w + w := by rw [Int.add_mul, Int.one_mul]
  have e0 : dlt w D x y 0 = D.getD (y * w + x + 1).toNat 0 - D.getD (y * w + x).toNat 0 := by simp [dlt]
  have e1 : dlt w D (x + 1) y 1 = D.getD (y * w + x + 1 + w).toNat 0 - D.getD (y * w + x + 1).toNat 0 := by
    simp only [dlt, if_true, ← Int.add_assoc]
  have e2 : dlt w D x (y + 1) 0 = D.getD (y * w + x + 1 + w).toNat 0 - D.getD (y * w + x + w).toNat 0 := by
    simp only [dlt, a1, show ¬ (0 : Int) = 1 by omega, if_false]
    rw [show y * (w : Int) + w + x + 1 = y * w + x + 1 + w by omega, show y * (w : Int) + w + x = y * w + x + w by omega]
  have e3 : dlt w D x y 1 = D.getD (y * w + x + w).toNat 0 - D.getD (y * w + x).toNat 0 := by simp [dlt]
  have hm : rndP w D P x y % 4 = 0 := by
    simp only [rndP, tnP, nrm, e0, e1, e2, e3]
    omega
  obtain ⟨m, hm2⟩ : ∃ m, rndP w D P x y = 4 * m := ⟨rndP w D P x y / 4, by omega⟩
  rw [hm2, Int.mul_tdiv_cancel_left _ (by omega)]
theorem sum_4 {w q : Nat} {D : List Int} {P : List Ed} (h : PreF w q D P) : ∀ {S : List Pl}, (S.map fun s => rndP w D P s.x s.y).sum = 4 * (S.map (idxS w D P)).sum
  | [] => rfl
  | s :: S => by
    have ih := sum_4 h (S := S)
    have := h.rnd4 s.x s.y
    have e : idxS w D P s = (rndP w D P s.x s.y).tdiv 4 := rfl
    simp only [List.map_cons, List.sum_cons, ih, Int.mul_add, e]
    omega
theorem idx_bd {w : Nat} {D : List Int} {P : List Ed} {s : Pl} : -25 ≤ idxS w D P s ∧ idxS w D P s ≤ 25 := by
  have hb := rnd_bd (w := w) (D := D) (P := P) (x := s.x) (y := s.y)
  unfold idxS
  generalize rndP w D P s.x s.y = r at *
  have := Int.mul_tdiv_add_tmod r 4
  have h1 := Int.tmod_lt_of_pos r (b := 4) (by omega)
  have h2 := Int.lt_tmod_of_pos r (b := 4) (by omega)
  omega
def insP (W Q : Int) (D : List Int) (P : List Ed) (S : List Pl) : Int × Int := if regE W Q D P S = 0 then ((S.map (idxS W.toNat D P)).sum, 0) else (0, regE W Q D P S)
section
variable {lim : Nat} {H : Hp} {K : V → Hp → Prop} {v d p sv : V} {D : List Int} {P : List Ed} {S : List Pl} {W Q x y u : Int} {w q : Nat}
theorem flow_Inside (hd : SlV H d D) (hp : EdV H p P) (hs : LstV plC H sv S) (hW : I64 W) (hQ : I64 Q) (hl : D.length ≤ 1000 ∧ P.length ≤ 1000) (hn : S.length ≤ 200) (hlim : lim ≤ H.length)
    (hK : ∀ H', HX H H' → K (.tup [.int .i64 (insP W Q D P S).1, .int .i64 (insP W Q D P S).2]) H') : VCall tbl lim 31 [.agg [.int .i64 W, .int .i64 Q, d, p], sv] H K := by
  refine VCall_fn tbl_at31 rfl ?_
  simp [vf31, hd.stor, hp.stor, hs.stor]
  refine flow_validateSquares hd hp hs hW hQ hl hn hlim fun H1 x1 => ?_
  replace x1 : HX H H1 := x1
  have l1 := x1.len
  simp
  refine cond_ndec (fun h => ?_) fun h => ?_
  · have := hK _ x1
    simp only [insP, h, if_false] at this
    simp
    exact this
  obtain ⟨w, q, rfl, rfl, hf, hval, hsq, hnd⟩ := regE_ok h
  simp only [insP, h, if_true, Int.toNat_natCast] at hK
  have hs1 := hs.mono x1
  simp [hs.len]
  refine wLoop_up S.length (fun i fr L H' => ∃ X, (fr 2 = .lp 0 0 ∧ fr 7 = .int .i64 (tS (idxS w D P) S i) ∧ fr 16 = sv ∧ fr 17 = .int .i64 S.length ∧ fr 18 = .int .i64 i) ∧ L = [.int .i64 w, .int .i64 q, d, p] :: X ∧ H' = H1) ⟨[], by simp [hs.len, tS_zero], rfl, rfl⟩ ?_
  rintro i hi fr L H' ⟨X, ⟨f2, f7, f16, f17, f18⟩, rfl, e0⟩
  have e0 := e0.symm
  subst e0
  simp [f2, f7, f16, f17, f18]
  refine cond_dec (fun ht => ?_) fun hfl => ?_
  · have ht : i < S.length := by omega
    have hat := hs1.at ht
    have hld := fun (L : Lo) => hs1.load (L := L) ht
    have hin := hsq (S.getD i default) (by simp [List.getD_eq_getElem?_getD, ht])
    have hsu := tS_succ (f := idxS w D P) ht
    have hb1 := tS_bd (f := idxS w D P) (l := S) (B := 25) (fun _ _ => idx_bd) (i := i) (by omega)
    have hb2 := idx_bd (w := w) (D := D) (P := P) (s := S.getD i default)
    generalize hse : S.getD i default = s at *
    simp (disch := omega) [f2, f7, f16, f17, f18, hat, hld, plC, Pl.cells, lastO, lastS, hd.stor, hp.stor]
    refine flow_index (hd.mono x1) (hp.mono x1) hf hin ?_
    have hix : (rndP w D P s.x s.y).tdiv 4 = idxS w D P s := rfl
    rw [hix]
    simp (disch := omega) [f2, f7, f16, f17, f18, wrap_i64, hsu]
    omega
  have hi2 : S.length = i := by omega
  subst hi2
  rw [tS_all] at f7
  simp [f7]
  exact hK _ x1
end
end Go.Proofs.YtjchpgkibhdoiaaDoor.Vm

namespace Go.Proofs.YtjchpgkibhdoiaaDoor.Vm
open Go
set_option maxRecDepth 100000
set_option maxHeartbeats 1000000
set_option linter.unusedSimpArgs false
set_option linter.unusedVariables false
attribute [-simp] List.getD_eq_getElem?_getD
theorem useS_bd {e : Ed} {s : Pl} : ∀ k : Nat, 0 ≤ useS e s k ∧ useS e s k ≤ k
  | 0 => by simp [useS]
  | k + 1 => by
    have := useS_bd (e := e) (s := s) k
    simp only [useS]; split <;> omega
theorem useN_bd {e : Ed} : ∀ {S : List Pl}, 0 ≤ useN S e ∧ useN S e ≤ 4 * (S.length : Int)
  | [] => by simp [useN]
  | s :: S => by
    have a := useN_bd (e := e) (S := S)
    have b := useS_bd (e := e) (s := s) 4
    unfold useN at *
    simp only [List.map_cons, List.sum_cons, List.length_cons]; omega
theorem useN_succ {S : List Pl} {i : Nat} (h : i < S.length) {e : Ed} : useN (S.take (i + 1)) e = useN (S.take i) e + useS e (S.getD i default) 4 := by
  unfold useN
  rw [take_mem h]; simp
theorem sd_eb {w q : Nat} {s : Pl} (h : isSB w q s.x s.y = true) : ∀ k : Nat, k < 4 → isEB w q (sdE s k).x (sdE s k).y (sdE s k).u = true := by
  obtain ⟨e0, e1, e2, e3⟩ := isSB_ed h
  intro k hk
  rcases (show k = 0 ∨ k = 1 ∨ k = 2 ∨ k = 3 by omega) with rfl | rfl | rfl | rfl
  · exact e0
  · exact e1
  · exact e2
  · exact e3
def rimC (s : Pl) : List V := [.int .i64 s.x, .int .i64 s.y, .int .i64 0, .int .i64 1, .int .i64 (s.x + 1), .int .i64 s.y, .int .i64 1, .int .i64 1, .int .i64 s.x, .int .i64 (s.y + 1), .int .i64 0, .int .i64 (-1), .int .i64 s.x, .int .i64 s.y, .int .i64 1, .int .i64 (-1)]
theorem rimC_at {s : Pl} {k : Nat} (hk : k < 4) : vidxA 4 4 (some 4) (.agg (rimC s)) (.int .i64 (k : Int)) = some (.agg [.int .i64 (sdE s k).x, .int .i64 (sdE s k).y, .int .i64 (sdE s k).u, .int .i64 (sdS k)]) := by
  rcases (show k = 0 ∨ k = 1 ∨ k = 2 ∨ k = 3 by omega) with rfl | rfl | rfl | rfl <;> simp [vidxA, vint, vfield, rd, rimC, sdE, sdS]
def vI (n : Int) : V := .int .i64 n
def psi (w : Nat) (D : List Int) (P : List Ed) (S : List Pl) (e : Ed) : Int := if useN S e = 1 then tnE w D P e else 0
theorem psi_bd {w : Nat} {D : List Int} {P : List Ed} {S : List Pl} {e : Ed} : -4 ≤ psi w D P S e ∧ psi w D P S e ≤ 4 := by
  have := tnP_bd (w := w) (D := D) (P := P) (x := e.x) (y := e.y) (u := e.u)
  unfold psi tnE; split <;> omega
theorem sdS_1 (k : Nat) : sdS k = 1 ∨ sdS k = -1 := by unfold sdS; split <;> simp
theorem sqS_bd {φ : Ed → Int} (h : ∀ e, -4 ≤ φ e ∧ φ e ≤ 4) {s : Pl} : ∀ k : Nat, -(4 * (k : Int)) ≤ sqS φ s k ∧ sqS φ s k ≤ 4 * k
  | 0 => by simp [sqS]
  | k + 1 => by
    have := sqS_bd h (s := s) k
    have := h (sdE s k)
    simp only [sqS]
    rcases sdS_1 k with h1 | h1 <;> rw [h1] <;> omega
def rimP (W Q : Int) (D : List Int) (P : List Ed) (S : List Pl) : Int × Int := if regE W Q D P S = 0 then (4 * (S.map (idxS W.toNat D P)).sum, 0) else (0, regE W Q D P S)
section
variable {lim : Nat} {H : Hp} {K : V → Hp → Prop} {v d p sv : V} {D : List Int} {P : List Ed} {S : List Pl} {W Q x y u : Int} {w q : Nat}
theorem flow_Rim (hd : SlV H d D) (hp : EdV H p P) (hs : LstV plC H sv S) (hW : I64 W) (hQ : I64 Q) (hl : D.length ≤ 1000 ∧ P.length ≤ 1000) (hn : S.length ≤ 200) (hlim : lim ≤ H.length)
    (hK : ∀ H', HX H H' → K (.tup [.int .i64 (rimP W Q D P S).1, .int .i64 (rimP W Q D P S).2]) H') : VCall tbl lim 32 [.agg [.int .i64 W, .int .i64 Q, d, p], sv] H K := by
  refine VCall_fn tbl_at32 rfl ?_
  simp [vf32, hd.stor, hp.stor, hs.stor]
  refine flow_validateSquares hd hp hs hW hQ hl hn hlim fun H1 x1 => ?_
  replace x1 : HX H H1 := x1
  have l1 := x1.len
  simp
  refine cond_ndec (fun h => ?_) fun h => ?_
  · have := hK _ x1
    simp only [rimP, h, if_false] at this
    simp
    exact this
  obtain ⟨w, q, rfl, rfl, hf, hval, hsq, hnd⟩ := regE_ok h
  have hfin : (S.map fun s => sqS (psi w D P S) s 4).sum = 4 * (S.map (idxS w D P)).sum := by
    have hpsi : psi w D P S = fun e => if useN S e = 1 then tnE w D P e else 0 := rfl
    have e1 := (rim_in (c := tnE w D P) hsq hnd).2
    rw [← hpsi] at e1
    have e2 : (S.map fun s => sqS (tnE w D P) s 4).sum = (S.map fun s => rndP w D P s.x s.y).sum := sum_congrL fun s _ => sqS_rnd
    exact e1.trans (e2.trans (sum_4 hf))
  simp only [rimP, h, if_true, Int.toNat_natCast, ← hfin] at hK
  have hs1 := hs.mono x1
  have hw1 := hf.w1
  have hq1 := hf.q1
  simp [hs.len]
  refine wLoop_up S.length (fun i fr L H' => ∃ X l, (fr 1 = sv ∧ fr 2 = .lp 0 0 ∧ fr 7 = .mp H1.length ∧ fr 24 = sv ∧ fr 25 = .int .i64 S.length ∧ fr 26 = .int .i64 i) ∧ L = [.int .i64 w, .int .i64 q, d, p] :: X ∧ H' = H1 ++ [.map (mE kI3 vI l)] ∧ ∀ a : Int × Int × Int, (look a l).getD 0 = useN (S.take i) ⟨a.1, a.2.1, a.2.2⟩) ⟨[], [], by simp [hs.len], rfl, by simp [mE], by simp [look, lkI, useN]⟩ ?_
  rintro i hi fr L H2 ⟨X, l, ⟨f1, f2, f7, f24, f25, f26⟩, rfl, e2, hlk⟩
  simp [f1, f2, f7, f24, f25, f26]
  refine cond_dec (fun ht => ?_) fun hfl => ?_
  · have ht : i < S.length := by omega
    have x2 : HX H1 H2 := by rw [e2]; exact .push
    have hs2 := hs1.mono x2
    have hat := hs2.at ht
    have hld := fun (L : Lo) => hs2.load (L := L) ht
    have hin := hsq (S.getD i default) (by simp [List.getD_eq_getElem?_getD, ht])
    have hus := fun e => useN_succ (e := e) ht
    generalize hse : S.getD i default = s at *
    have hsb := hin
    simp only [isSB, decide_eq_true_eq] at hsb
    simp (disch := omega) [f1, f2, f7, f24, f25, f26, hat, hld, plC, Pl.cells, lastO, lastS]
    refine flow_rim (by omega) (by omega) ?_
    have hrc : [V.int .i64 s.x, .int .i64 s.y, .int .i64 0, .int .i64 1, .int .i64 (s.x + 1), .int .i64 s.y, .int .i64 1, .int .i64 1, .int .i64 s.x, .int .i64 (s.y + 1), .int .i64 0, .int .i64 (-1), .int .i64 s.x, .int .i64 s.y, .int .i64 1, .int .i64 (-1)] = rimC s := rfl
    rw [hrc]
    simp
    refine wLoop_up 4 (fun k fr L H' => ∃ X l, (fr 1 = sv ∧ fr 2 = .lp 0 0 ∧ fr 7 = .mp H1.length ∧ fr 24 = sv ∧ fr 25 = .int .i64 S.length ∧ fr 26 = .int .i64 i ∧ fr 34 = .agg (rimC s) ∧ fr 35 = .int .i64 k) ∧ L = [.int .i64 w, .int .i64 q, d, p] :: X ∧ H' = H1 ++ [.map (mE kI3 vI l)] ∧ ∀ a : Int × Int × Int, (look a l).getD 0 = useN (S.take i) ⟨a.1, a.2.1, a.2.2⟩ + useS ⟨a.1, a.2.1, a.2.2⟩ s k) ⟨_, l, by simp [f1, f2, f7, f24, f25, f26], rfl, e2, by simpa [useS] using hlk⟩ ?_
    clear f1 f2 f7 f24 f25 f26 e2 hlk l X hs2 hat hld x2
    rintro k hk fr L H3 ⟨X, l, ⟨f1, f2, f7, f24, f25, f26, f34, f35⟩, rfl, e3, hlk⟩
    simp [f1, f2, f7, f24, f25, f26, f34, f35]
    refine cond_dec (fun ht2 => ?_) fun hfl2 => ?_
    · have ht2 : k < 4 := by omega
      have hix := rimC_at (s := s) ht2
      have hub : ∀ e, useS e s (k + 1) = useS e s k + if sdE s k = e then 1 else 0 := fun e => rfl
      have hb1 := useN_bd (e := sdE s k) (S := S.take i)
      have hb2 := useS_bd (e := sdE s k) (s := s) k
      have htl : (S.take i).length ≤ 200 := by simp; omega
      generalize hed : sdE s k = e at *
      generalize sdS k = sg at *
      have hb : H3[H1.length]? = some (.map (mE kI3 vI l)) := by rw [e3]; simp
      have hlt : H1.length < H3.length := by rw [e3]; simp
      have hn := hlk (e.x, e.y, e.u)
      simp only at hn
      have hee : (⟨e.x, e.y, e.u⟩ : Ed) = e := rfl
      rw [hee] at hn
      have hg : vmget true [.int .i64, .int .i64, .int .i64] false (.int .i64 0) H3 (.mp H1.length) (.agg [.int .i64 e.x, .int .i64 e.y, .int .i64 e.u]) = some (.int .i64 ((look (e.x, e.y, e.u) l).getD 0)) := vmgetE (K := kI3) (vc := vI) (z := 0) (a := (e.x, e.y, e.u)) hb
      have hme : vment lim true [.int .i64, .int .i64, .int .i64] (.int .i64 0) H3 (.mp H1.length) (.agg [.int .i64 e.x, .int .i64 e.y, .int .i64 e.u]) = some (.tup [.int .i64 ((look (e.x, e.y, e.u) l).getD 0), .int .i64 (entI (e.x, e.y, e.u) l)], H3.set H1.length (.map (mE kI3 vI (putA (e.x, e.y, e.u) ((look (e.x, e.y, e.u) l).getD 0) l)))) := vmentE (K := kI3) (vc := vI) (z := 0) (a := (e.x, e.y, e.u)) hb (by omega) rfl
      have hms : vmest lim (H3.set H1.length (.map (mE kI3 vI (putA (e.x, e.y, e.u) ((look (e.x, e.y, e.u) l).getD 0) l)))) (.mp H1.length) (.int .i64 (entI (e.x, e.y, e.u) l)) (.int .i64 ((look (e.x, e.y, e.u) l).getD 0 + 1)) = some (H3.set H1.length (.map (mE kI3 vI (putA (e.x, e.y, e.u) ((look (e.x, e.y, e.u) l).getD 0 + 1) l)))) := vmestE (K := kI3) (vc := vI) (u := (look (e.x, e.y, e.u) l).getD 0 + 1) (a := (e.x, e.y, e.u)) hlt (by omega) rfl
      have hset : H3.set H1.length (.map (mE kI3 vI (putA (e.x, e.y, e.u) ((look (e.x, e.y, e.u) l).getD 0 + 1) l))) = H1 ++ [.map (mE kI3 vI (putA (e.x, e.y, e.u) ((look (e.x, e.y, e.u) l).getD 0 + 1) l))] := by rw [e3]; simp
      rw [hset] at hms
      generalize hnn : (look (e.x, e.y, e.u) l).getD 0 = n at *
      generalize H3.set H1.length (.map (mE kI3 vI (putA (e.x, e.y, e.u) n l))) = H4 at *
      simp (disch := omega) [f1, f2, f7, f24, f25, f26, f34, f35, hix, lastO, lastS, z4, hg, hme, hms, wrap_i64]
      refine ⟨by omega, _, rfl, fun a b c => ?_⟩
      rw [look_put, hub]
      by_cases c0 : ((a, b, c) : Int × Int × Int) = (e.x, e.y, e.u)
      · rw [if_pos c0]
        simp only [Prod.mk.injEq] at c0
        obtain ⟨rfl, rfl, rfl⟩ := c0
        have : e = ⟨e.x, e.y, e.u⟩ := rfl
        rw [if_pos this, hee, Option.getD_some]; omega
      · rw [if_neg c0]
        have h9 := hlk (a, b, c)
        simp only at h9
        have : ¬ e = ⟨a, b, c⟩ := fun h => c0 (by rw [h])
        rw [h9, if_neg this]; omega
    · have hk2 : 4 = k := by omega
      subst hk2
      simp (disch := omega) [f1, f2, f7, f24, f25, f26, f34, f35, wrap_i64]
      refine ⟨by omega, l, e3, fun a b c => ?_⟩
      rw [hus]
      exact hlk (a, b, c)
  have hi2 : S.length = i := by omega
  subst hi2
  rw [List.take_length] at hlk
  have x2 : HX H1 H2 := by rw [e2]; exact .push
  have hs2 := hs1.mono x2
  have hd2 := hd.mono (x1.trans x2)
  have hp2 := hp.mono (x1.trans x2)
  have hb : H2[H1.length]? = some (.map (mE kI3 vI l)) := by rw [e2]; simp
  have hgt : ∀ e : Ed, vmget true [.int .i64, .int .i64, .int .i64] false (.int .i64 0) H2 (.mp H1.length) (.agg [.int .i64 e.x, .int .i64 e.y, .int .i64 e.u]) = some (.int .i64 (useN S e)) := fun e => by
    have h1 : vmget true [.int .i64, .int .i64, .int .i64] false (.int .i64 0) H2 (.mp H1.length) (.agg [.int .i64 e.x, .int .i64 e.y, .int .i64 e.u]) = some (.int .i64 ((look (e.x, e.y, e.u) l).getD 0)) := vmgetE (K := kI3) (vc := vI) (z := 0) (a := (e.x, e.y, e.u)) hb
    rw [h1, hlk]
  simp [f1, f2, f7, hs.len]
  clear f24 f25 f26 hb hlk
  refine wLoop_up S.length (fun i fr L H' => ∃ X, (fr 2 = .lp 0 0 ∧ fr 7 = .mp H1.length ∧ fr 12 = .int .i64 (tS (fun s => sqS (psi w D P S) s 4) S i) ∧ fr 47 = sv ∧ fr 48 = .int .i64 S.length ∧ fr 49 = .int .i64 i) ∧ L = [.int .i64 w, .int .i64 q, d, p] :: X ∧ H' = H2) ⟨X, by simp [f1, f2, f7, hs.len, tS_zero], rfl, rfl⟩ ?_
  clear f1 f2 f7 X
  rintro i hi fr L H3 ⟨X, ⟨f2, f7, f12, f47, f48, f49⟩, rfl, e3⟩
  have e3 := e3.symm
  subst e3
  simp [f2, f7, f12, f47, f48, f49]
  refine cond_dec (fun ht => ?_) fun hfl => ?_
  · have ht : i < S.length := by omega
    have hat := hs2.at ht
    have hld := fun (L : Lo) => hs2.load (L := L) ht
    have hin := hsq (S.getD i default) (by simp [List.getD_eq_getElem?_getD, ht])
    have hsu := tS_succ (f := fun s => sqS (psi w D P S) s 4) ht
    have hb1 := tS_bd (f := fun s => sqS (psi w D P S) s 4) (l := S) (B := 16) (fun s _ => by have := sqS_bd (φ := psi w D P S) (fun e => psi_bd) (s := s) 4; omega) (i := i) (by omega)
    generalize hse : S.getD i default = s at *
    generalize tS (fun s => sqS (psi w D P S) s 4) S i = T at *
    have hsb := hin
    simp only [isSB, decide_eq_true_eq] at hsb
    simp (disch := omega) [f2, f7, f12, f47, f48, f49, hat, hld, plC, Pl.cells, lastO, lastS]
    refine flow_rim (by omega) (by omega) ?_
    have hrc : [V.int .i64 s.x, .int .i64 s.y, .int .i64 0, .int .i64 1, .int .i64 (s.x + 1), .int .i64 s.y, .int .i64 1, .int .i64 1, .int .i64 s.x, .int .i64 (s.y + 1), .int .i64 0, .int .i64 (-1), .int .i64 s.x, .int .i64 s.y, .int .i64 1, .int .i64 (-1)] = rimC s := rfl
    rw [hrc]
    simp
    refine wLoop_up 4 (fun k fr L H' => ∃ X, (fr 2 = .lp 0 0 ∧ fr 7 = .mp H1.length ∧ fr 12 = .int .i64 (T + sqS (psi w D P S) s k) ∧ fr 47 = sv ∧ fr 48 = .int .i64 S.length ∧ fr 49 = .int .i64 i ∧ fr 57 = .agg (rimC s) ∧ fr 58 = .int .i64 k) ∧ L = [.int .i64 w, .int .i64 q, d, p] :: X ∧ H' = H2) ⟨_, by simp [f2, f7, f12, f47, f48, f49, sqS], rfl, rfl⟩ ?_
    clear f2 f7 f12 f47 f48 f49 X
    rintro k hk fr L H3 ⟨X, ⟨f2, f7, f12, f47, f48, f49, f57, f58⟩, rfl, e3⟩
    have e3 := e3.symm
    subst e3
    simp [f2, f7, f12, f47, f48, f49, f57, f58]
    refine cond_dec (fun ht2 => ?_) fun hfl2 => ?_
    · have ht2 : k < 4 := by omega
      have hix := rimC_at (s := s) ht2
      have hsd := sd_eb hin k ht2
      have hst : sqS (psi w D P S) s (k + 1) = sqS (psi w D P S) s k + sdS k * psi w D P S (sdE s k) := rfl
      have hb2 := sqS_bd (φ := psi w D P S) (fun e => psi_bd) (s := s) k
      have hpe : psi w D P S (sdE s k) = if useN S (sdE s k) = 1 then tnP w D P (sdE s k).x (sdE s k).y (sdE s k).u else 0 := rfl
      have hg := hgt (sdE s k)
      have hsg := sdS_1 k
      have htb := tnP_bd (w := w) (D := D) (P := P) (x := (sdE s k).x) (y := (sdE s k).y) (u := (sdE s k).u)
      generalize hed : sdE s k = e at *
      generalize sdS k = sg at *
      generalize sqS (psi w D P S) s k = R at *
      simp (disch := omega) [f2, f7, f12, f47, f48, f49, f57, f58, hix, lastO, lastS, z4, hg]
      refine cond_dec (fun hu => ?_) fun hu => ?_
      · simp (disch := omega) [f2, f7, f12, f47, f48, f49, f57, f58, lastO, lastS, z4, hd.stor, hp.stor]
        refine flow_turning hd2 hp2 hf hsd ?_
        rw [if_pos hu] at hpe
        rw [hpe] at hst
        generalize tnP w D P e.x e.y e.u = t at *
        have hbd : -4 ≤ sg * t ∧ sg * t ≤ 4 := by rcases hsg with h1 | h1 <;> rw [h1] <;> omega
        have hwr : IntKind.i64.wrap (sg * t) = sg * t := wrap_i64 (by omega) (by omega)
        simp (disch := omega) [f2, f7, f12, f47, f48, f49, f57, f58, wrap_i64, hwr, hst]
        omega
      · rw [if_neg hu] at hpe
        rw [hpe, Int.mul_zero, Int.add_zero] at hst
        simp (disch := omega) [f2, f7, f12, f47, f48, f49, f57, f58, wrap_i64, hst]
        omega
    · have hk2 : 4 = k := by omega
      subst hk2
      simp (disch := omega) [f2, f7, f12, f47, f48, f49, f57, f58, wrap_i64, hsu]
      omega
  have hi2 : S.length = i := by omega
  subst hi2
  rw [tS_all] at f12
  simp [f12]
  exact hK _ (x1.trans x2)
end
end Go.Proofs.YtjchpgkibhdoiaaDoor.Vm
