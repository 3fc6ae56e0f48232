/- Fields of directions over the machine: Crop; FlowBesides. -/
import Derived.Test.YtjchpgkibhdoiaaFlJ
namespace Go.Proofs.Ytjchpgkibhdoiaa.Vm
open Go
set_option maxRecDepth 100000
set_option linter.unusedSimpArgs false
set_option linter.unusedVariables false
attribute [-simp] List.getD_eq_getElem?_getD

def cropOk (W Q x y w h : Int) : Prop := 0 ≤ x ∧ x < W ∧ 0 ≤ y ∧ y < Q ∧ 1 ≤ w ∧ 1 ≤ h ∧ w ≤ W - x ∧ h ≤ Q - y
instance {W Q x y w h : Int} : Decidable (cropOk W Q x y w h) := by unfold cropOk; infer_instance
def cropD (W : Nat) (D : List Int) (x y w : Nat) (i : Nat) : List Int := (D.drop ((y + i) * W + x)).take w
def cropE (W Q : Int) (D : List Int) (P : List Ed) (x y w h : Int) : Int :=
  if validP W Q D P ≠ 0 then validP W Q D P else if ¬ cropOk W Q x y w h then 1
  else validP w h (catR (cropD W.toNat D x.toNat y.toNat w.toNat) h.toNat) (cropP w h x y P P.length)

section
variable {lim : Nat} {H : Hp} {K : V → Hp → Prop} {v d p d' p' : V} {D D' : List Int} {P P' : List Ed} {W Q x y w h : Int}
theorem tw0 {α : Type} {X : List α} {c d : α} : (X ++ [c, d])[X.length]? = some c := by simp
theorem tw1 {α : Type} {X : List α} {c d : α} : (X ++ [c, d])[X.length + 1]? = some d := by simp
theorem tws0 {α : Type} {X : List α} {c d e : α} : (X ++ [c, d]).set X.length e = X ++ [e, d] := by simp
theorem tws1 {α : Type} {X : List α} {c d e : α} : (X ++ [c, d]).set (X.length + 1) e = X ++ [c, e] := by
  rw [List.set_append_right _ _ (by omega)]; simp
theorem cropP_ed {H : Hp} {pv : V} {w1 q1 X Y w2 h2 : Nat} {D : List Int} {P : List Ed} (hf : PreF w1 q1 D P) (hX : X ≤ 12 ∧ Y ≤ 12) (h : LstV edC H pv (cropP w2 h2 X Y P P.length)) : EdV H pv (cropP w2 h2 X Y P P.length) := by
  refine ⟨h, ?_⟩
  have key : ∀ i, i ≤ P.length → ∀ e ∈ cropP w2 h2 X Y P i, e.in64 := by
    intro i
    induction i with
    | zero => intro _ e he; simp [cropP] at he
    | succ i ih =>
      intro hi e he
      simp only [cropP] at he
      rcases List.mem_append.1 he with he | he
      · exact ih (by omega) e he
      · split at he
        · simp only [List.mem_singleton] at he
          subst he
          have po := hf.po i (by omega)
          simp only [pOk, Bool.and_eq_true] at po
          have pe := po.1
          have := hf.w1
          have := hf.q1
          simp only [isEB, decide_eq_true_eq] at pe
          unfold Ed.in64 I64; simp only; omega
        · simp at he
  exact key _ (Nat.le_refl _)
theorem cut_sub {a b : Nat} (hd : SlV H d D) (hab : a < b ∧ b ≤ D.length) : vslS 1 d (some (.int .i64 (a : Int))) (some (.int .i64 (b : Int))) = some (subV d a b) ∧ SlV H (subV d a b) ((D.drop a).take (b - a)) :=
  ⟨hd.subW ⟨by omega, hab.2⟩ (by omega) (vbounds_nat ⟨by omega, hab.2⟩), hd.sub ⟨by omega, hab.2⟩⟩
theorem ref_isPlace (hd : Vm.stor d = true) (hp : Vm.stor p = true) (hW : 1 ≤ W ∧ W ≤ 12) (hQ : 1 ≤ Q ∧ Q ≤ 12) (hK : K (.bool (decide (0 ≤ x ∧ x < W ∧ 0 ≤ y ∧ y < Q))) H) : VCall tbl lim 60 [.agg [.int .i64 W, .int .i64 Q, d, p], .int .i64 x, .int .i64 y] H K := by
  refine VCall_fn tbl_at60 rfl ?_
  simp (disch := omega) [vf60, hd, hp, wrap_i64]
  refine ref_within ?_
  by_cases h1 : 0 ≤ x ∧ x ≤ W - 1
  · simp (disch := omega) [h1, wrap_i64]
    refine ref_within ?_
    have e : decide (0 ≤ x ∧ x < W ∧ 0 ≤ y ∧ y < Q) = decide (0 ≤ y ∧ y ≤ Q - 1) := by simp only [decide_eq_decide]; omega
    rw [e] at hK
    simpa using hK
  · have e : decide (0 ≤ x ∧ x < W ∧ 0 ≤ y ∧ y < Q) = false := by simp only [decide_eq_false_iff_not]; omega
    rw [e] at hK
    simp [h1]
    simpa using hK
theorem flow_Crop (hd : SlV H d D) (hp : EdV H p P) (hW : I64 W) (hQ : I64 Q) (hx : I64 x) (hy : I64 y) (hw : I64 w) (hh : I64 h) (hl : D.length ≤ 1000 ∧ P.length ≤ 1000) (hlim : lim ≤ H.length)
    (hbad : cropE W Q D P x y w h ≠ 0 → ∀ H', HX H H' → K (.tup [.agg [.int .i64 0, .int .i64 0, .snil, .snil], .int .i64 (cropE W Q D P x y w h)]) H')
    (hK : cropE W Q D P x y w h = 0 → ∀ H' d' p', HX H H' → SlV H' d' (catR (cropD W.toNat D x.toNat y.toNat w.toNat) h.toNat) → EdV H' p' (cropP w h x y P P.length) → K (.tup [.agg [.int .i64 w, .int .i64 h, d', p'], .int .i64 0]) H') : VCall tbl lim 32 [.agg [.int .i64 W, .int .i64 Q, d, p], .int .i64 x, .int .i64 y, .int .i64 w, .int .i64 h] H K := by
  refine VCall_fn tbl_at32 rfl ?_
  simp [vf32, hd.stor, hp.stor]
  refine flow_Validate hd hp hW hQ hl hlim fun H1 x1 => ?_
  replace x1 : HX H H1 := x1
  have l1 := x1.len
  simp
  refine cond_ndec (fun hv => ?_) fun hv => ?_
  · have e : cropE W Q D P x y w h = validP W Q D P := by simp [cropE, hv]
    rw [e] at hbad
    simp; exact hbad hv _ x1
  obtain ⟨w1, q1, rfl, rfl, hf⟩ := valid_pre hv
  have b1 := hf.w1
  have b3 := hf.q1
  simp [hd.stor, hp.stor]
  refine flow_isPlace hd.stor hp.stor ?_
  by_cases hpl : 0 ≤ x ∧ x < w1 ∧ 0 ≤ y ∧ y < q1
  case neg =>
    have e : cropE w1 q1 D P x y w h = 1 := by
      have : ¬ cropOk w1 q1 x y w h := by unfold cropOk; omega
      simp [cropE, hv, this]
    rw [e] at hbad
    simp [hpl]; exact hbad (by omega) _ x1
  simp (disch := omega) [hpl, wrap_i64]
  refine cond_bool (fun hc => ?_) fun hc => ?_
  · have e : cropE w1 q1 D P x y w h = 1 := by
      have : ¬ cropOk w1 q1 x y w h := by simp at hc; unfold cropOk; omega
      simp [cropE, hv, this]
    rw [e] at hbad
    simp; exact hbad (by omega) _ x1
  have hok : cropOk w1 q1 x y w h := by simp at hc; unfold cropOk; omega
  have hok2 := hok
  unfold cropOk at hok2
  obtain ⟨X, rfl⟩ := Int.eq_ofNat_of_zero_le hok2.1
  obtain ⟨Y, rfl⟩ := Int.eq_ofNat_of_zero_le hok2.2.2.1
  obtain ⟨w2, rfl⟩ := Int.eq_ofNat_of_zero_le (show 0 ≤ w by omega)
  obtain ⟨h2, rfl⟩ := Int.eq_ofNat_of_zero_le (show 0 ≤ h by omega)
  have eC : cropE w1 q1 D P X Y w2 h2 = validP w2 h2 (catR (cropD w1 D X Y w2) h2) (cropP w2 h2 X Y P P.length) := by simp [cropE, hv, hok]
  rw [eC] at hbad hK
  simp only [Int.toNat_natCast] at hK
  simp [splice]
  have n1 : D.length = w1 * q1 := by
    have e : ((w1 * q1 : Nat) : Int) = (w1 : Int) * q1 := by simp
    have := hf.dl
    omega
  have rl : ∀ i, i < h2 → (cropD w1 D X Y w2 i).length = w2 := by
    intro i hi
    have m1 : (Y + i + 1) * w1 ≤ q1 * w1 := Nat.mul_le_mul_right _ (by omega)
    rw [Nat.add_mul, Nat.one_mul] at m1
    rw [Nat.mul_comm] at n1
    simp [cropD]; omega
  have cl : ∀ i, i ≤ h2 → (catR (cropD w1 D X Y w2) i).length = i * w2 := by
    intro i hi
    match i with
    | 0 => simp [catR]
    | i + 1 => exact (catR_row (n := i + 1) (fun j hj => rl j (by omega)) (i := 0) (by omega)).2
  have cb : ∀ i, i ≤ h2 → i * w2 ≤ 12 * 12 := fun i hi => Nat.mul_le_mul (by omega) (by omega)
  refine wLoop_up h2 (fun i fr L H' => ∃ v, (fr 1 = .int .i64 X ∧ fr 2 = .int .i64 Y ∧ fr 3 = .int .i64 w2 ∧ fr 4 = .int .i64 h2 ∧ fr 5 = .lp 0 0 ∧ fr 10 = .lp 1 0 ∧ fr 13 = .lp 2 0 ∧ fr 14 = .int .i64 ((Y : Int) + i)) ∧ L = [[.int .i64 w1, .int .i64 q1, d, p], [.int .i64 0, .int .i64 0, .snil, .snil], [.int .i64 w2, .int .i64 h2, v, .snil]] ∧ HX H1 H' ∧ OwnV H1.length H' v (catR (cropD w1 D X Y w2) i)) ⟨.snil, by simp, by simp, .refl, .nil⟩ ?_
  rintro i hi fr L H4 ⟨v, ⟨f1, f2, f3, f4, f5, f10, f13, f14⟩, rfl, hx4, ov⟩
  have hx4l := hx4.len
  simp (disch := omega) [f1, f2, f3, f4, f5, f10, f13, f14, wrap_i64]
  refine cond_dec (fun ht => ?_) fun hfl => ?_
  · have ht : i < h2 := by omega
    have m1 : (Y + i + 1) * w1 ≤ q1 * w1 := Nat.mul_le_mul_right _ (by omega)
    rw [Nat.add_mul, Nat.one_mul] at m1
    have m2 : q1 * w1 = w1 * q1 := Nat.mul_comm _ _
    have c1 := mul_bd (a := (Y : Int) + i) (b := (w1 : Int)) (A := 24) (B := 12) (by omega) (by omega)
    have ea : ((Y : Int) + i) * w1 = (((Y + i) * w1 : Nat) : Int) := by simp
    have u1 : IntKind.i64.wrap (((Y : Int) + i) * w1) = ((Y : Int) + i) * w1 := wrap_i64 (by omega) (by omega)
    have u2 : IntKind.i64.wrap (((Y : Int) + i) * w1 + X) = ((Y : Int) + i) * w1 + X := wrap_i64 (by omega) (by omega)
    have u3 : IntKind.i64.wrap (((Y : Int) + i) * w1 + X + w2) = ((Y : Int) + i) * w1 + X + w2 := wrap_i64 (by omega) (by omega)
    obtain ⟨s1, o1⟩ := cut_sub (a := (Y + i) * w1 + X) (b := (Y + i) * w1 + X + w2) (hd.mono (x1.trans hx4)) (by omega)
    have eb : (((Y + i) * w1 + X : Nat) : Int) = ((Y : Int) + i) * w1 + X := by simp
    have ec : (((Y + i) * w1 + X + w2 : Nat) : Int) = ((Y : Int) + i) * w1 + X + w2 := by simp
    rw [eb, ec] at s1
    have ed : (Y + i) * w1 + X + w2 - ((Y + i) * w1 + X) = w2 := by omega
    rw [ed] at o1
    have k1 := cl i hi
    have k2 := cb i hi
    obtain ⟨v1, H5, a1, ov1, a3, a4⟩ := vapp_own (lim := lim) ov o1 (by omega) hx4.len ⟨by omega, by simp; omega⟩
    have x5 := a3 _ hx4 (Nat.le_refl _)
    simp (disch := omega) [f1, f2, f3, f4, f5, f10, f13, f14, u1, u2, u3, s1, a1, wrap_i64, ov1.sl.stor, ov1.sl.one]
    exact ⟨by omega, by omega, x5, ov1⟩
  have e : h2 = i := by omega
  subst e
  simp [f1, f2, f5, f10, f13, hp.len]
  refine wLoop_up P.length (fun i fr L H' => ∃ pv Z, (fr 1 = .int .i64 X ∧ fr 2 = .int .i64 Y ∧ fr 5 = .lp 0 0 ∧ fr 10 = .lp 1 0 ∧ fr 13 = .lp 2 0 ∧ fr 87 = p ∧ fr 88 = .int .i64 P.length ∧ fr 89 = .int .i64 i) ∧ L = [.int .i64 w1, .int .i64 q1, d, p] :: [.int .i64 0, .int .i64 0, .snil, .snil] :: [.int .i64 w2, .int .i64 h2, v, pv] :: Z ∧ HX H4 H' ∧ OwnT H4.length edC H' pv (cropP w2 h2 X Y P i)) ⟨.snil, [], by simp [f1, f2, f5, f10, f13, hp.len], by simp, .refl, .nil⟩ ?_
  clear f1 f2 f3 f4 f5 f10 f13 f14
  rintro i hi fr L H5 ⟨pv, Z, ⟨f1, f2, f5, f10, f13, f87, f88, f89⟩, rfl, hx5, op⟩
  have hx5l := hx5.len
  have ov5 := ov.mono hx5
  simp [f1, f2, f5, f10, f13, f87, f88, f89]
  refine cond_dec (fun ht => ?_) fun hfl => ?_
  · have ht : i < P.length := by omega
    have hp5 := hp.mono ((x1.trans hx4).trans hx5)
    have po := hf.po i ht
    simp only [pOk, Bool.and_eq_true] at po
    have pe := po.1
    simp only [isEB, decide_eq_true_eq] at pe
    have hcl := cropP_len (w := w2) (q := h2) (x := X) (y := Y) (P := P) i
    have hpl9 := hf.pl
    have hcs : cropP w2 h2 X Y P (i + 1) = cropP w2 h2 X Y P i ++ (if isEB w2 h2 ((P.getD i default).x - X) ((P.getD i default).y - Y) (P.getD i default).u = true then [⟨(P.getD i default).x - X, (P.getD i default).y - Y, (P.getD i default).u⟩] else []) := Eq.trans rfl rfl
    generalize he : P.getD i default = e at *
    have ld : ∀ L, vload (some 3) L H5 (ept 3 p i) = some (.agg [.int .i64 e.x, .int .i64 e.y, .int .i64 e.u]) := fun L => by have := hp5.load (L := L) ht; rw [he] at this; exact this
    have hat := hp5.lst.at ht
    simp (disch := omega) [f1, f2, f5, f10, f13, f87, f88, f89, hat, ld, tw0, tw1, tws0, tws1, lastO, lastS, wrap_i64, ov5.sl.stor, op.lst.stor]
    refine flow_isEdge (W := (w2 : Int)) (Q := (h2 : Int)) ov5.sl.stor op.lst.stor (by omega) (by omega) ?_
    simp
    refine cond_bool (fun hb => ?_) fun hb => ?_
    · obtain ⟨pv', H6, a1, a2, a3, a4, a5, a6⟩ := op.append (lim := lim) (bytes := 24) (x := ⟨e.x - X, e.y - Y, e.u⟩) (cs := [.int .i64 (e.x - X), .int .i64 (e.y - Y), .int .i64 e.u]) rfl ⟨by omega, hx5.len⟩ (by omega) (by omega)
      rw [if_pos hb] at hcs
      simp (disch := omega) [f1, f2, f5, f10, f13, f87, f88, f89, tw0, tw1, tws0, tws1, wrap_i64, a1, a2.lst.stor, a2.lst.one]
      refine ⟨by omega, a3 _ hx5 (Nat.le_refl _), ?_⟩
      rw [hcs]; exact a2
    · rw [if_neg (by simp [hb]), List.append_nil] at hcs
      simp (disch := omega) [f1, f2, f5, f10, f13, f87, f88, f89, wrap_i64]
      refine ⟨by omega, hx5, ?_⟩
      rw [hcs]; exact op
  have e : P.length = i := by omega
  subst e
  have hed := cropP_ed hf (by omega) op.lst
  have k1 := cl h2 (Nat.le_refl _)
  have k2 := cb h2 (Nat.le_refl _)
  have k3 := cropP_len (w := w2) (q := h2) (x := X) (y := Y) (P := P) P.length
  have hpl9 := hf.pl
  have hx05 := (x1.trans hx4).trans hx5
  simp [f10, f13, ov5.sl.stor, op.lst.stor]
  refine flow_checkedE ov5.sl hed hw hh ⟨by omega, by omega⟩ (by omega) (fun hb H6 x6 => ?_) fun hg H6 x6 => ?_
  · replace x6 : HX H5 H6 := x6
    simp [f10]
    exact hbad hb _ (hx05.trans x6)
  · replace x6 : HX H5 H6 := x6
    simp [f10, ov5.sl.stor, op.lst.stor]
    exact hK hg _ _ _ (hx05.trans x6) (ov5.sl.mono x6) (hed.mono x6)
theorem ref_Crop (hd : SlV H d D) (hp : EdV H p P) (hW : I64 W) (hQ : I64 Q) (hx : I64 x) (hy : I64 y) (hw : I64 w) (hh : I64 h) (hl : D.length ≤ 1000 ∧ P.length ≤ 1000) (hlim : lim ≤ H.length)
    (hbad : cropE W Q D P x y w h ≠ 0 → ∀ H', HX H H' → K (.tup [.agg [.int .i64 0, .int .i64 0, .snil, .snil], .int .i64 (cropE W Q D P x y w h)]) H')
    (hK : cropE W Q D P x y w h = 0 → ∀ H' d' p', HX H H' → SlV H' d' (catR (cropD W.toNat D x.toNat y.toNat w.toNat) h.toNat) → EdV H' p' (cropP w h x y P P.length) → K (.tup [.agg [.int .i64 w, .int .i64 h, d', p'], .int .i64 0]) H') : VCall tbl lim 33 [.agg [.int .i64 W, .int .i64 Q, d, p], .int .i64 x, .int .i64 y, .int .i64 w, .int .i64 h] H K := by
  refine VCall_fn tbl_at33 rfl ?_
  simp [vf33, hd.stor, hp.stor]
  refine ref_Validate hd hp hW hQ hl hlim fun H1 x1 => ?_
  replace x1 : HX H H1 := x1
  have l1 := x1.len
  simp
  refine cond_ndec (fun hv => ?_) fun hv => ?_
  · have e : cropE W Q D P x y w h = validP W Q D P := by simp [cropE, hv]
    rw [e] at hbad
    simp; exact hbad hv _ x1
  obtain ⟨w1, q1, rfl, rfl, hf⟩ := valid_pre hv
  have b1 := hf.w1
  have b3 := hf.q1
  simp [hd.stor, hp.stor]
  refine ref_isPlace hd.stor hp.stor (by omega) (by omega) ?_
  by_cases hpl : 0 ≤ x ∧ x < w1 ∧ 0 ≤ y ∧ y < q1
  case neg =>
    have e : cropE w1 q1 D P x y w h = 1 := by
      have : ¬ cropOk w1 q1 x y w h := by unfold cropOk; omega
      simp [cropE, hv, this]
    rw [e] at hbad
    simp [hpl]; exact hbad (by omega) _ x1
  simp (disch := omega) [hpl, wrap_i64]
  refine ref_within ?_
  by_cases hc1 : 1 ≤ w ∧ w ≤ w1 - x
  case neg =>
    have e : cropE w1 q1 D P x y w h = 1 := by
      have : ¬ cropOk w1 q1 x y w h := by unfold cropOk; omega
      simp [cropE, hv, this]
    rw [e] at hbad
    simp [hc1]; exact hbad (by omega) _ x1
  simp (disch := omega) [hc1, wrap_i64]
  refine ref_within ?_
  by_cases hc2 : 1 ≤ h ∧ h ≤ q1 - y
  case neg =>
    have e : cropE w1 q1 D P x y w h = 1 := by
      have : ¬ cropOk w1 q1 x y w h := by unfold cropOk; omega
      simp [cropE, hv, this]
    rw [e] at hbad
    simp [hc2]; exact hbad (by omega) _ x1
  have hok : cropOk w1 q1 x y w h := by unfold cropOk; omega
  simp [hc2]
  have hok2 := hok
  unfold cropOk at hok2
  obtain ⟨X, rfl⟩ := Int.eq_ofNat_of_zero_le hok2.1
  obtain ⟨Y, rfl⟩ := Int.eq_ofNat_of_zero_le hok2.2.2.1
  obtain ⟨w2, rfl⟩ := Int.eq_ofNat_of_zero_le (show 0 ≤ w by omega)
  obtain ⟨h2, rfl⟩ := Int.eq_ofNat_of_zero_le (show 0 ≤ h by omega)
  have eC : cropE w1 q1 D P X Y w2 h2 = validP w2 h2 (catR (cropD w1 D X Y w2) h2) (cropP w2 h2 X Y P P.length) := by simp [cropE, hv, hok]
  rw [eC] at hbad hK
  simp only [Int.toNat_natCast] at hK
  have n1 : D.length = w1 * q1 := by
    have e : ((w1 * q1 : Nat) : Int) = (w1 : Int) * q1 := by simp
    have := hf.dl
    omega
  have rl : ∀ i, i < h2 → (cropD w1 D X Y w2 i).length = w2 := by
    intro i hi
    have m1 : (Y + i + 1) * w1 ≤ q1 * w1 := Nat.mul_le_mul_right _ (by omega)
    rw [Nat.add_mul, Nat.one_mul] at m1
    rw [Nat.mul_comm] at n1
    simp [cropD]; omega
  have cl : ∀ i, i ≤ h2 → (catR (cropD w1 D X Y w2) i).length = i * w2 := by
    intro i hi
    match i with
    | 0 => simp [catR]
    | i + 1 => exact (catR_row (n := i + 1) (fun j hj => rl j (by omega)) (i := 0) (by omega)).2
  have cb : ∀ i, i ≤ h2 → i * w2 ≤ 12 * 12 := fun i hi => Nat.mul_le_mul (by omega) (by omega)
  refine wLoop_up h2 (fun i fr L H' => ∃ v, (fr 1 = .int .i64 X ∧ fr 2 = .int .i64 Y ∧ fr 3 = .int .i64 w2 ∧ fr 4 = .int .i64 h2 ∧ fr 5 = .lp 0 0 ∧ fr 10 = .lp 1 0 ∧ fr 13 = .lp 2 0 ∧ fr 14 = .int .i64 ((Y : Int) + i)) ∧ L = [[.int .i64 w1, .int .i64 q1, d, p], [.int .i64 0, .int .i64 0, .snil, .snil], [.int .i64 w2, .int .i64 h2, v, .snil]] ∧ HX H1 H' ∧ OwnV H1.length H' v (catR (cropD w1 D X Y w2) i)) ⟨.snil, by simp, by simp, .refl, .nil⟩ ?_
  rintro i hi fr L H4 ⟨v, ⟨f1, f2, f3, f4, f5, f10, f13, f14⟩, rfl, hx4, ov⟩
  have hx4l := hx4.len
  simp (disch := omega) [f1, f2, f3, f4, f5, f10, f13, f14, wrap_i64]
  refine cond_dec (fun ht => ?_) fun hfl => ?_
  · have ht : i < h2 := by omega
    simp (disch := omega) [f1, f2, f3, f4, f5, f10, f13, f14, wrap_i64]
    have m1 : (Y + i + 1) * w1 ≤ q1 * w1 := Nat.mul_le_mul_right _ (by omega)
    rw [Nat.add_mul, Nat.one_mul] at m1
    have m2 : q1 * w1 = w1 * q1 := Nat.mul_comm _ _
    have c1 := mul_bd (a := (Y : Int) + i) (b := (w1 : Int)) (A := 24) (B := 12) (by omega) (by omega)
    have ea : ((Y : Int) + i) * w1 = (((Y + i) * w1 : Nat) : Int) := by simp
    refine wLoop_up w2 (fun j fr L H' => ∃ v, (fr 1 = .int .i64 X ∧ fr 2 = .int .i64 Y ∧ fr 3 = .int .i64 w2 ∧ fr 4 = .int .i64 h2 ∧ fr 5 = .lp 0 0 ∧ fr 10 = .lp 1 0 ∧ fr 13 = .lp 2 0 ∧ fr 14 = .int .i64 ((Y : Int) + i) ∧ fr 15 = .int .i64 ((X : Int) + j)) ∧ L = [[.int .i64 w1, .int .i64 q1, d, p], [.int .i64 0, .int .i64 0, .snil, .snil], [.int .i64 w2, .int .i64 h2, v, .snil]] ∧ HX H1 H' ∧ OwnV H1.length H' v (catR (cropD w1 D X Y w2) i ++ (cropD w1 D X Y w2 i).take j)) ⟨v, by simp [f1, f2, f3, f4, f5, f10, f13, f14], rfl, hx4, by simpa using ov⟩ ?_
    clear f1 f2 f3 f4 f5 f10 f13 f14 ov hx4 hx4l
    rintro j hj fr L H4 ⟨v, ⟨f1, f2, f3, f4, f5, f10, f13, f14, f15⟩, rfl, hx4, ov⟩
    have hx4l := hx4.len
    have k1 := cl i hi
    have k2 := cb i hi
    have k3 := rl i ht
    simp (disch := omega) [f1, f2, f3, f4, f5, f10, f13, f14, f15, wrap_i64]
    refine cond_dec (fun ht2 => ?_) fun hfl2 => ?_
    · have ht2 : j < w2 := by omega
      simp (disch := omega) [f1, f2, f3, f4, f5, f10, f13, f14, f15, hd.stor, hp.stor]
      refine ref_at (x := (X : Int) + j) (y := (Y : Int) + i) (hd.mono (x1.trans hx4)) hp.stor (by omega) ?_
      have et : (((Y : Int) + i) * w1 + ((X : Int) + j)).toNat = (Y + i) * w1 + X + j := by rw [ea]; omega
      rw [et]
      have eg : D.getD ((Y + i) * w1 + X + j) 0 = (cropD w1 D X Y w2 i).getD j 0 := by
        simp only [cropD, List.getD_eq_getElem?_getD]
        rw [List.getElem?_take_of_lt ht2, List.getElem?_drop]
      rw [eg]
      have esn : (cropD w1 D X Y w2 i).take (j + 1) = (cropD w1 D X Y w2 i).take j ++ [(cropD w1 D X Y w2 i).getD j 0] := take_snoc (by omega)
      obtain ⟨v1, H5, a1, ov1, a3, a4⟩ := vapp_own (lim := lim) (ov.mono (H' := H4 ++ [.row [.int .i64 ((cropD w1 D X Y w2 i).getD j 0)] true]) HX.push) (.lit (l := [(cropD w1 D X Y w2 i).getD j 0]) (own := true) List.getElem?_concat_length rfl) (by omega) (by simp; omega) ⟨by simp; omega, by simp⟩
      have x5 := a3 _ (hx4.trans HX.push) (Nat.le_refl _)
      have a1 : vappend lim 1 8 (H4 ++ [.row [.int .i64 ((cropD w1 D X Y w2 i).getD j 0)] true]) v (.sl H4.length 0 1 1) = some (v1, H5) := a1
      simp (disch := omega) [f1, f2, f3, f4, f5, f10, f13, f14, f15, splice, a1, wrap_i64, ov1.sl.stor, ov1.sl.one]
      refine ⟨by omega, by omega, x5, ?_⟩
      rw [esn, ← List.append_assoc]; exact ov1
    · have e : j = w2 := by omega
      subst e
      simp (disch := omega) [f1, f2, f3, f4, f5, f10, f13, f14, f15, wrap_i64]
      refine ⟨by omega, by omega, hx4, ?_⟩
      simp only [catR]
      rw [List.take_of_length_le (by omega)] at ov; exact ov
  have e : h2 = i := by omega
  subst e
  simp [f1, f2, f5, f10, f13]
  refine wLoop_up P.length (fun i fr L H' => ∃ pv Z, (fr 1 = .int .i64 X ∧ fr 2 = .int .i64 Y ∧ fr 5 = .lp 0 0 ∧ fr 10 = .lp 1 0 ∧ fr 13 = .lp 2 0 ∧ fr 16 = .int .i64 i) ∧ L = [.int .i64 w1, .int .i64 q1, d, p] :: [.int .i64 0, .int .i64 0, .snil, .snil] :: [.int .i64 w2, .int .i64 h2, v, pv] :: Z ∧ HX H4 H' ∧ OwnT H4.length edC H' pv (cropP w2 h2 X Y P i)) ⟨.snil, [], by simp [f1, f2, f5, f10, f13], by simp, .refl, .nil⟩ ?_
  clear f1 f2 f3 f4 f5 f10 f13 f14
  rintro i hi fr L H5 ⟨pv, Z, ⟨f1, f2, f5, f10, f13, f16⟩, rfl, hx5, op⟩
  have hx5l := hx5.len
  have ov5 := ov.mono hx5
  simp [f1, f2, f5, f10, f13, f16, hp.len]
  refine cond_dec (fun ht => ?_) fun hfl => ?_
  · have ht : i < P.length := by omega
    have hp5 := hp.mono ((x1.trans hx4).trans hx5)
    have po := hf.po i ht
    simp only [pOk, Bool.and_eq_true] at po
    have pe := po.1
    simp only [isEB, decide_eq_true_eq] at pe
    have hcl := cropP_len (w := w2) (q := h2) (x := X) (y := Y) (P := P) i
    have hpl9 := hf.pl
    have hcs : cropP w2 h2 X Y P (i + 1) = cropP w2 h2 X Y P i ++ (if isEB w2 h2 ((P.getD i default).x - X) ((P.getD i default).y - Y) (P.getD i default).u = true then [⟨(P.getD i default).x - X, (P.getD i default).y - Y, (P.getD i default).u⟩] else []) := Eq.trans rfl rfl
    generalize he : P.getD i default = e at *
    have ld : ∀ L, vload (some 3) L H5 (ept 3 p i) = some (.agg [.int .i64 e.x, .int .i64 e.y, .int .i64 e.u]) := fun L => by have := hp5.load (L := L) ht; rw [he] at this; exact this
    have hat := hp5.lst.at ht
    simp (disch := omega) [f1, f2, f5, f10, f13, f16, hat, ld, tw0, tw1, tws0, tws1, lastO, lastS, wrap_i64, ov5.sl.stor, op.lst.stor]
    refine ref_isEdge (W := (w2 : Int)) (Q := (h2 : Int)) ov5.sl.stor op.lst.stor (by omega) (by omega) ?_
    simp
    refine cond_bool (fun hb => ?_) fun hb => ?_
    · obtain ⟨pv', H6, a1, a2, a3, a4, a5, a6⟩ := op.append (lim := lim) (bytes := 24) (x := ⟨e.x - X, e.y - Y, e.u⟩) (cs := [.int .i64 (e.x - X), .int .i64 (e.y - Y), .int .i64 e.u]) rfl ⟨by omega, hx5.len⟩ (by omega) (by omega)
      rw [if_pos hb] at hcs
      simp (disch := omega) [f1, f2, f5, f10, f13, f16, tw0, tw1, tws0, tws1, lastO, lastS, wrap_i64, a1, a2.lst.stor, a2.lst.one]
      refine ⟨by omega, a3 _ hx5 (Nat.le_refl _), ?_⟩
      rw [hcs]; exact a2
    · rw [if_neg (by simp [hb]), List.append_nil] at hcs
      simp (disch := omega) [f1, f2, f5, f10, f13, f16, wrap_i64]
      refine ⟨by omega, hx5, ?_⟩
      rw [hcs]; exact op
  have e : P.length = i := by omega
  subst e
  have hed := cropP_ed hf (by omega) op.lst
  have k1 := cl h2 (Nat.le_refl _)
  have k2 := cb h2 (Nat.le_refl _)
  have k3 := cropP_len (w := w2) (q := h2) (x := X) (y := Y) (P := P) P.length
  have hpl9 := hf.pl
  have hx05 := (x1.trans hx4).trans hx5
  simp [f10, f13, ov5.sl.stor, op.lst.stor]
  refine ref_resultE ov5.sl hed hw hh ⟨by omega, by omega⟩ (by omega) (fun hb H6 x6 => ?_) fun hg H6 x6 => ?_
  · replace x6 : HX H5 H6 := x6
    simp [f10]
    exact hbad hb _ (hx05.trans x6)
  · replace x6 : HX H5 H6 := x6
    simp [f10, ov5.sl.stor, op.lst.stor]
    exact hK hg _ _ _ (hx05.trans x6) (ov5.sl.mono x6) (hed.mono x6)
def bW (e W : Int) : Int := if e = 0 then W else 0
def bL {α : Type} (e : Int) (l : List α) : List α := if e = 0 then l else []
theorem flow_BesideU {W2 Q2 : Int} {D2 : List Int} {P2 : List Ed} {d2 p2 : V} (hd : SlV H d D) (hp : EdV H p P) (hd2 : SlV H d2 D2) (hp2 : EdV H p2 P2) (hW : I64 W) (hQ : I64 Q) (hW2 : I64 W2) (hQ2 : I64 Q2) (hl : D.length ≤ 1000 ∧ P.length ≤ 1000) (hl2 : D2.length ≤ 1000 ∧ P2.length ≤ 1000) (hlim : lim ≤ H.length)
    (hK : ∀ H' d' p', HX H H' → SlV H' d' (bL (besE W Q D P W2 Q2 D2 P2) (catR (besD W.toNat W2.toNat D D2) Q.toNat)) → EdV H' p' (bL (besE W Q D P W2 Q2 D2 P2) (P ++ P2.map (shE W 0))) → K (.tup [.agg [.int .i64 (bW (besE W Q D P W2 Q2 D2 P2) (W + W2)), .int .i64 (bW (besE W Q D P W2 Q2 D2 P2) Q), d', p'], .int .i64 (besE W Q D P W2 Q2 D2 P2)]) H') : VCall tbl lim 30 [.agg [.int .i64 W, .int .i64 Q, d, p], .agg [.int .i64 W2, .int .i64 Q2, d2, p2]] H K :=
  flow_Beside hd hp hd2 hp2 hW hQ hW2 hQ2 hl hl2 hlim
    (fun hne H' hx => by have := hK H' .snil .snil hx (by simp only [bL, hne, if_false]; exact .nil) (by simp only [bL, hne, if_false]; exact ⟨.nil, by simp⟩); simpa [bW, hne] using this)
    (fun he H' d' p' hx h1 h2 => by have := hK H' d' p' hx (by simp only [bL, he, if_true]; exact h1) (by simp only [bL, he, if_true]; exact h2); simpa [bW, he] using this)
theorem ref_BesideU {W2 Q2 : Int} {D2 : List Int} {P2 : List Ed} {d2 p2 : V} (hd : SlV H d D) (hp : EdV H p P) (hd2 : SlV H d2 D2) (hp2 : EdV H p2 P2) (hW : I64 W) (hQ : I64 Q) (hW2 : I64 W2) (hQ2 : I64 Q2) (hl : D.length ≤ 1000 ∧ P.length ≤ 1000) (hl2 : D2.length ≤ 1000 ∧ P2.length ≤ 1000) (hlim : lim ≤ H.length)
    (hK : ∀ H' d' p', HX H H' → SlV H' d' (bL (besE W Q D P W2 Q2 D2 P2) (catR (besD W.toNat W2.toNat D D2) Q.toNat)) → EdV H' p' (bL (besE W Q D P W2 Q2 D2 P2) (P ++ P2.map (shE W 0))) → K (.tup [.agg [.int .i64 (bW (besE W Q D P W2 Q2 D2 P2) (W + W2)), .int .i64 (bW (besE W Q D P W2 Q2 D2 P2) Q), d', p'], .int .i64 (besE W Q D P W2 Q2 D2 P2)]) H') : VCall tbl lim 31 [.agg [.int .i64 W, .int .i64 Q, d, p], .agg [.int .i64 W2, .int .i64 Q2, d2, p2]] H K :=
  ref_Beside hd hp hd2 hp2 hW hQ hW2 hQ2 hl hl2 hlim
    (fun hne H' hx => by have := hK H' .snil .snil hx (by simp only [bL, hne, if_false]; exact .nil) (by simp only [bL, hne, if_false]; exact ⟨.nil, by simp⟩); simpa [bW, hne] using this)
    (fun he H' d' p' hx h1 h2 => by have := hK H' d' p' hx (by simp only [bL, he, if_true]; exact h1) (by simp only [bL, he, if_true]; exact h2); simpa [bW, he] using this)
theorem flow_CropU (hd : SlV H d D) (hp : EdV H p P) (hW : I64 W) (hQ : I64 Q) (hx : I64 x) (hy : I64 y) (hw : I64 w) (hh : I64 h) (hl : D.length ≤ 1000 ∧ P.length ≤ 1000) (hlim : lim ≤ H.length)
    (hK : ∀ H' d' p', HX H H' → SlV H' d' (bL (cropE W Q D P x y w h) (catR (cropD W.toNat D x.toNat y.toNat w.toNat) h.toNat)) → EdV H' p' (bL (cropE W Q D P x y w h) (cropP w h x y P P.length)) → K (.tup [.agg [.int .i64 (bW (cropE W Q D P x y w h) w), .int .i64 (bW (cropE W Q D P x y w h) h), d', p'], .int .i64 (cropE W Q D P x y w h)]) H') : VCall tbl lim 32 [.agg [.int .i64 W, .int .i64 Q, d, p], .int .i64 x, .int .i64 y, .int .i64 w, .int .i64 h] H K :=
  flow_Crop hd hp hW hQ hx hy hw hh hl hlim
    (fun hne H' hx => by have := hK H' .snil .snil hx (by simp only [bL, hne, if_false]; exact .nil) (by simp only [bL, hne, if_false]; exact ⟨.nil, by simp⟩); simpa [bW, hne] using this)
    (fun he H' d' p' hx h1 h2 => by have := hK H' d' p' hx (by simp only [bL, he, if_true]; exact h1) (by simp only [bL, he, if_true]; exact h2); simpa [bW, he] using this)
theorem ref_CropU (hd : SlV H d D) (hp : EdV H p P) (hW : I64 W) (hQ : I64 Q) (hx : I64 x) (hy : I64 y) (hw : I64 w) (hh : I64 h) (hl : D.length ≤ 1000 ∧ P.length ≤ 1000) (hlim : lim ≤ H.length)
    (hK : ∀ H' d' p', HX H H' → SlV H' d' (bL (cropE W Q D P x y w h) (catR (cropD W.toNat D x.toNat y.toNat w.toNat) h.toNat)) → EdV H' p' (bL (cropE W Q D P x y w h) (cropP w h x y P P.length)) → K (.tup [.agg [.int .i64 (bW (cropE W Q D P x y w h) w), .int .i64 (bW (cropE W Q D P x y w h) h), d', p'], .int .i64 (cropE W Q D P x y w h)]) H') : VCall tbl lim 33 [.agg [.int .i64 W, .int .i64 Q, d, p], .int .i64 x, .int .i64 y, .int .i64 w, .int .i64 h] H K :=
  ref_Crop hd hp hW hQ hx hy hw hh hl hlim
    (fun hne H' hx => by have := hK H' .snil .snil hx (by simp only [bL, hne, if_false]; exact .nil) (by simp only [bL, hne, if_false]; exact ⟨.nil, by simp⟩); simpa [bW, hne] using this)
    (fun he H' d' p' hx h1 h2 => by have := hK H' d' p' hx (by simp only [bL, he, if_true]; exact h1) (by simp only [bL, he, if_true]; exact h2); simpa [bW, he] using this)
/-- the parts of two side by side -/
theorem bes_parts {W2 Q2 : Int} {D2 : List Int} {P2 : List Ed} (he : besE W Q D P W2 Q2 D2 P2 = 0) : ∃ w1 w2 q : Nat, W = w1 ∧ W2 = w2 ∧ Q = q ∧ Q2 = q ∧ PreF w1 q D P ∧ PreF w2 q D2 P2 ∧ (w1 : Int) + w2 ≤ 12 ∧
    cropE ((w1 : Int) + w2) q (catR (besD w1 w2 D D2) q) (P ++ P2.map (shE w1 0)) 0 0 w1 q = 0 ∧ catR (cropD (w1 + w2) (catR (besD w1 w2 D D2) q) 0 0 w1) q = D ∧ cropP w1 q 0 0 (P ++ P2.map (shE w1 0)) (P ++ P2.map (shE w1 0)).length = P ∧
    cropE ((w1 : Int) + w2) q (catR (besD w1 w2 D D2) q) (P ++ P2.map (shE w1 0)) w1 0 w2 q = 0 ∧ catR (cropD (w1 + w2) (catR (besD w1 w2 D D2) q) w1 0 w2) q = D2 ∧ cropP w2 q w1 0 (P ++ P2.map (shE w1 0)) (P ++ P2.map (shE w1 0)).length = P2 := by
  have v1 : validP W Q D P = 0 := by
    by_cases e : validP W Q D P = 0
    · exact e
    · simp [besE, e] at he
  have v2 : validP W2 Q2 D2 P2 = 0 := by
    by_cases e : validP W2 Q2 D2 P2 = 0
    · exact e
    · simp [besE, v1, e] at he
  have v3 : Q = Q2 := by
    by_cases e : Q = Q2
    · exact e
    · simp [besE, v1, v2, e] at he
  subst v3
  have v4 : ¬ 12 < W + W2 := by
    intro e
    simp [besE, v1, v2, e] at he
  obtain ⟨w1, q, rfl, rfl, hf⟩ := valid_pre v1
  obtain ⟨w2, q', rfl, eq, hf2⟩ := valid_pre v2
  have : q' = q := by omega
  subst this
  have b1 := hf.w1
  have b2 := hf2.w1
  have b3 := hf.q1
  have v5 : validP ((w1 : Int) + w2) q' (catR (besD w1 w2 D D2) q') (P ++ P2.map (shE w1 0)) = 0 := by
    have := he
    simp only [besE, v1, v2, ne_eq, not_true_eq_false, if_false, v4, Int.toNat_natCast] at this
    exact this
  have n1 : D.length = q' * w1 := by
    have e : ((q' * w1 : Nat) : Int) = (w1 : Int) * q' := by simp [Int.mul_comm]
    have := hf.dl
    omega
  have n2 : D2.length = q' * w2 := by
    have e : ((q' * w2 : Nat) : Int) = (w2 : Int) * q' := by simp [Int.mul_comm]
    have := hf2.dl
    omega
  have ra : ∀ i, i < q' → ((D.drop (i * w1)).take w1).length = w1 := by
    intro i hi
    have m1 : (i + 1) * w1 ≤ q' * w1 := Nat.mul_le_mul_right _ (by omega)
    rw [Nat.add_mul, Nat.one_mul] at m1
    simp; omega
  have rb : ∀ i, i < q' → ((D2.drop (i * w2)).take w2).length = w2 := by
    intro i hi
    have m2 : (i + 1) * w2 ≤ q' * w2 := Nat.mul_le_mul_right _ (by omega)
    rw [Nat.add_mul, Nat.one_mul] at m2
    simp; omega
  have rl : ∀ i, i < q' → (besD w1 w2 D D2 i).length = w1 + w2 := by
    intro i hi; simp only [besD, List.length_append, ra i hi, rb i hi]
  have row := fun i hi => (catR_row (n := q') rl (i := i) hi).1
  have L : catR (cropD (w1 + w2) (catR (besD w1 w2 D D2) q') 0 0 w1) q' = D := by
    rw [catR_congr (g := fun y => (D.drop (y * w1)).take w1) fun i hi => ?_, catR_all q' (by omega), List.take_of_length_le (by omega)]
    simp only [cropD, Nat.zero_add, Nat.add_zero]
    have := row i hi
    have e : (List.drop (i * (w1 + w2)) (catR (besD w1 w2 D D2) q')).take w1 = ((List.drop (i * (w1 + w2)) (catR (besD w1 w2 D D2) q')).take (w1 + w2)).take w1 := by rw [List.take_take]; congr 1; omega
    rw [e, this]
    simp only [besD]
    rw [List.take_append_of_le_length (by rw [ra i hi]; omega), List.take_of_length_le (by rw [ra i hi]; omega)]
  have R : catR (cropD (w1 + w2) (catR (besD w1 w2 D D2) q') w1 0 w2) q' = D2 := by
    rw [catR_congr (g := fun y => (D2.drop (y * w2)).take w2) fun i hi => ?_, catR_all q' (by omega), List.take_of_length_le (by omega)]
    simp only [cropD, Nat.zero_add]
    have := row i hi
    have e : (List.drop (i * (w1 + w2) + w1) (catR (besD w1 w2 D D2) q')).take w2 = (((List.drop (i * (w1 + w2)) (catR (besD w1 w2 D D2) q')).take (w1 + w2)).drop w1).take w2 := by
      rw [List.drop_take, List.take_take, List.drop_drop]; congr 1; omega
    rw [e, this]
    simp only [besD]
    rw [List.drop_append_of_le_length (by rw [ra i hi]; omega), List.drop_of_length_le (by rw [ra i hi]; omega), List.nil_append, List.take_of_length_le (by rw [rb i hi]; omega)]
  have pe1 : ∀ i, i < P.length → isEB w1 q' (P.getD i default).x (P.getD i default).y (P.getD i default).u = true := fun i hi => by
    have := hf.po i hi
    simp only [pOk, Bool.and_eq_true] at this
    exact this.1
  have pe2 : ∀ i, i < P2.length → isEB w2 q' (P2.getD i default).x (P2.getD i default).y (P2.getD i default).u = true := fun i hi => by
    have := hf2.po i hi
    simp only [pOk, Bool.and_eq_true] at this
    exact this.1
  have gm : ∀ i, i < P2.length → (P2.map (shE w1 0)).getD i default = shE w1 0 (P2.getD i default) := fun i hi => by
    simp [List.getD_eq_getElem?_getD, hi]
  have PL : cropP w1 q' 0 0 (P ++ P2.map (shE w1 0)) (P ++ P2.map (shE w1 0)).length = P := by
    rw [List.length_append, cropP_app _ (Nat.le_refl _), cropP_all (fun i hi => by simpa using pe1 i hi) _ (Nat.le_refl _), List.take_length, shE_0, cropP_none (fun i hi => ?_) _ (Nat.le_refl _), List.append_nil]
    have hi : i < P2.length := by simpa using hi
    rw [gm i hi]
    have q9 := pe2 i hi
    show isEB w1 q' ((P2.getD i default).x + w1 - 0) ((P2.getD i default).y + 0 - 0) (P2.getD i default).u = false
    simp only [isEB, decide_eq_true_eq] at q9
    simp only [isEB, decide_eq_false_iff_not]
    omega
  have PR : cropP w2 q' w1 0 (P ++ P2.map (shE w1 0)) (P ++ P2.map (shE w1 0)).length = P2 := by
    rw [List.length_append, cropP_app _ (Nat.le_refl _), cropP_none (fun i hi => ?_) _ (Nat.le_refl _), cropP_all (fun i hi => ?_) _ (Nat.le_refl _), List.take_length, List.nil_append, List.map_map]
    · have : (shE (-(w1 : Int)) (-0) ∘ shE w1 0) = id := by
        funext e; cases e; simp only [Function.comp, shE, id]; congr 1 <;> omega
      rw [this]; simp
    · have hi : i < P2.length := by simpa using hi
      rw [gm i hi]
      have q9 := pe2 i hi
      show isEB w2 q' ((P2.getD i default).x + w1 - w1) ((P2.getD i default).y + 0 - 0) (P2.getD i default).u = true
      simp only [isEB, decide_eq_true_eq] at q9 ⊢
      omega
    · have q9 := pe1 i hi
      simp only [isEB, decide_eq_true_eq] at q9
      simp only [isEB, decide_eq_false_iff_not]
      omega
  have t12 : ((w1 : Int) + w2).toNat = w1 + w2 := by omega
  refine ⟨w1, w2, q', rfl, rfl, rfl, eq, hf, hf2, by omega, ?_, L, PL, ?_, R, PR⟩
  · have ok : cropOk ((w1 : Int) + w2) q' 0 0 w1 q' := by unfold cropOk; omega
    simp only [cropE, v5, ok, ne_eq, not_true_eq_false, if_false, t12, Int.toNat_natCast, Int.toNat_zero, L, PL, v1]
  · have ok : cropOk ((w1 : Int) + w2) q' w1 0 w2 q' := by unfold cropOk; omega
    simp only [cropE, v5, ok, ne_eq, not_true_eq_false, if_false, t12, Int.toNat_natCast, Int.toNat_zero, R, PR, v2]
theorem valid_len (hv : validP W Q D P = 0) : D.length ≤ 1000 ∧ P.length ≤ 1000 := by
  obtain ⟨w1, q1, rfl, rfl, hf⟩ := valid_pre hv
  have m := mul_bd (a := (w1 : Int)) (b := (q1 : Int)) (A := 12) (B := 12) (by have := hf.w1; omega) (by have := hf.q1; omega)
  have := hf.dl
  have := hf.pl
  omega
theorem bes_len {W2 Q2 : Int} {D2 : List Int} {P2 : List Ed} : (bL (besE W Q D P W2 Q2 D2 P2) (catR (besD W.toNat W2.toNat D D2) Q.toNat)).length ≤ 1000 ∧ (bL (besE W Q D P W2 Q2 D2 P2) (P ++ P2.map (shE W 0))).length ≤ 1000 := by
  by_cases he : besE W Q D P W2 Q2 D2 P2 = 0
  · simp only [bL, he, if_true]
    have he' := he
    simp only [besE] at he'
    split at he'
    · contradiction
    split at he'
    · contradiction
    split at he'
    · omega
    split at he'
    · omega
    · exact valid_len he'
  · simp [bL, he]
theorem crop_len : (bL (cropE W Q D P x y w h) (catR (cropD W.toNat D x.toNat y.toNat w.toNat) h.toNat)).length ≤ 1000 ∧ (bL (cropE W Q D P x y w h) (cropP w h x y P P.length)).length ≤ 1000 := by
  by_cases he : cropE W Q D P x y w h = 0
  · simp only [bL, he, if_true]
    have he' := he
    simp only [cropE] at he'
    split at he'
    · contradiction
    split at he'
    · omega
    · exact valid_len he'
  · simp [bL, he]
theorem law_FlowBesides {ws ws2 : List V} {f g : Fld} (hv : FldV H ws f) (hv2 : FldV H ws2 g) (hlim : lim ≤ H.length) (hx : I64 x) (hy : I64 y) (hw : I64 w) (hh : I64 h) (hK : ∀ H', K (.bool true) H') : VCall tbl lim 8 [.agg ws, .agg ws2, .agg [.int .i64 x, .int .i64 y, .int .i64 w, .int .i64 h]] H K := by
  cases hv with
  | mk hW hQ hd hp hD =>
  cases hv2 with
  | mk hW2 hQ2 hd2 hp2 hD2 =>
    rename_i d p W Q D P d2 p2 W2 Q2 D2 P2
    refine VCall_fn tbl_at8 rfl ?_
    simp [vf8, hd.stor, hp.stor, hd2.stor, hp2.stor]
    refine fl_Long hd hp ?_
    by_cases c1 : 400 < D.length ∨ 200 < P.length
    · simp [c1]
      refine fl_known hlim fun H1 _ => ?_
      simp; exact hK _
    simp [c1, hd2.stor, hp2.stor]
    refine fl_Long hd2 hp2 ?_
    by_cases c2 : 400 < D2.length ∨ 200 < P2.length
    · simp [c2]
      refine fl_known hlim fun H1 _ => ?_
      simp; exact hK _
    simp [c2, hd.stor, hp.stor, hd2.stor, hp2.stor]
    have g1 : D.length ≤ 1000 ∧ P.length ≤ 1000 := by omega
    have g2 : D2.length ≤ 1000 ∧ P2.length ≤ 1000 := by omega
    refine flow_BesideU hd hp hd2 hp2 hW hQ hW2 hQ2 g1 g2 hlim fun H1 d3 p3 x1 o1 o2 => ?_
    replace x1 : HX H H1 := x1
    have l1 := x1.len
    simp [hd.stor, hp.stor, hd2.stor, hp2.stor, o1.stor, o2.stor]
    refine ref_BesideU (hd.mono x1) (hp.mono x1) (hd2.mono x1) (hp2.mono x1) hW hQ hW2 hQ2 g1 g2 (by omega) fun H2 d4 p4 x2 o3 o4 => ?_
    replace x2 : HX H1 H2 := x2
    have l2 := x2.len
    have x12 := x1.trans x2
    simp [hd.stor, hp.stor, hd2.stor, hp2.stor, o3.stor, o4.stor]
    refine flow_CropU (hd.mono x12) (hp.mono x12) hW hQ hx hy hw hh g1 (by omega) fun H3 d5 p5 x3 o5 o6 => ?_
    replace x3 : HX H2 H3 := x3
    have l3 := x3.len
    have x13 := x12.trans x3
    simp [hd.stor, hp.stor, o5.stor, o6.stor]
    refine ref_CropU (hd.mono x13) (hp.mono x13) hW hQ hx hy hw hh g1 (by omega) fun H4 d6 p6 x4 o7 o8 => ?_
    replace x4 : HX H3 H4 := x4
    have l4 := x4.len
    have x14 := x13.trans x4
    have x24 := x3.trans x4
    simp [o1.stor, o2.stor, o3.stor, o4.stor, o5.stor, o6.stor, o7.stor, o8.stor]
    refine ref_Same (o1.mono (x2.trans x24)) (o2.mono (x2.trans x24)) (o3.mono x24) (o4.mono x24) bes_len ?_
    simp [o5.stor, o6.stor, o7.stor, o8.stor]
    refine ref_Same (o5.mono x4) (o6.mono x4) o7 o8 crop_len ?_
    simp
    refine cond_ndec (fun he => ?_) fun he => ?_
    · simp
      refine fl_known (by omega) fun H5 _ => ?_
      simp; exact hK _
    obtain ⟨w1, w2, q, rfl, rfl, rfl, rfl, hf, hf2, h12, c3, L, PL, c4, R, PR⟩ := bes_parts he
    have t12 : ((w1 : Int) + w2).toNat = w1 + w2 := by omega
    have bl := bes_len (W := w1) (Q := q) (D := D) (P := P) (W2 := w2) (Q2 := q) (D2 := D2) (P2 := P2)
    simp only [bL, he, if_true, Int.toNat_natCast] at o1 o2 bl
    have x4' := x2.trans x24
    have O1 := o1.mono x4'
    have O2 := o2.mono x4'
    have hw1 := hf.w1
    have hw2 := hf2.w1
    have hq1 := hf.q1
    simp [he, bW, o1.stor, o2.stor]
    refine flow_CropU (w := (w1 : Int)) (h := (q : Int)) O1 O2 (by unfold I64; omega) hQ (by unfold I64; omega) (by unfold I64; omega) hW hQ bl (by omega) fun H5 d7 p7 x5 o9 o10 => ?_
    replace x5 : HX H4 H5 := x5
    have l5 := x5.len
    simp only [c3, bL, if_true, t12, Int.toNat_natCast, Int.toNat_zero, L, PL] at o9 o10
    simp [c3, bW, o1.stor, o2.stor, o9.stor, o10.stor]
    refine flow_CropU (w := (w2 : Int)) (h := (q : Int)) (O1.mono x5) (O2.mono x5) (by unfold I64; omega) hQ hW (by unfold I64; omega) hW2 hQ bl (by omega) fun H6 d8 p8 x6 o11 o12 => ?_
    replace x6 : HX H5 H6 := x6
    have l6 := x6.len
    simp only [c4, bL, if_true, t12, Int.toNat_natCast, Int.toNat_zero, R, PR] at o11 o12
    simp [c4, bW, o9.stor, o10.stor, o11.stor, o12.stor, hd.stor, hp.stor]
    have x56 := x5.trans x6
    refine ref_Same (o9.mono x6) (o10.mono x6) (hd.mono (x14.trans x56)) (hp.mono (x14.trans x56)) g1 ?_
    simp [o11.stor, o12.stor, hd2.stor, hp2.stor]
    refine ref_Same o11 o12 (hd2.mono (x14.trans x56)) (hp2.mono (x14.trans x56)) g2 ?_
    simp
    refine fl_known (by omega) fun H7 _ => ?_
    simp; exact hK _
end
end Go.Proofs.Ytjchpgkibhdoiaa.Vm
