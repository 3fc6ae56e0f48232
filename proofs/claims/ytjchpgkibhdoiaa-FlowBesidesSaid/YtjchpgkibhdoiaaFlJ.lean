/- Fields of directions over the machine: Beside. -/
import Derived.Test.YtjchpgkibhdoiaaFlI
namespace Go.Proofs.Ytjchpgkibhdoiaa.Vm
open Go
set_option maxRecDepth 100000
set_option linter.unusedSimpArgs false
set_option linter.unusedVariables false
attribute [-simp] List.getD_eq_getElem?_getD

section
variable {lim : Nat} {H : Hp} {K : V → Hp → Prop} {v d p d' p' : V} {D D' : List Int} {P P' : List Ed} {W Q x y u k : Int} {w q : Nat}
theorem vapp_sl {n bytes : Nat} {v y v' : V} {H' : Hp} (h : vappend lim n bytes H v y = some (v', H')) : v' = .snil ∨ ∃ l, v' = .sl H.length 0 l n := by
  unfold vappend at h
  repeat' (split at h)
  all_goals (first | (cases h; done) | (cases h; exact Or.inl rfl) | (cases h; exact Or.inr ⟨_, rfl⟩))
theorem vapp_own {n : Nat} {H : Hp} {v y : V} {a l : List Int} (h : OwnV n H v a) (hy : SlV H y l) (hlim : lim ≤ n) (hn : n ≤ H.length) (hl : a.length < 1000000 ∧ l.length < 1000000) :
    ∃ v' H', vappend lim 1 8 H v y = some (v', H') ∧ OwnV n H' v' (a ++ l) ∧ (∀ H0, HX H0 H → H0.length ≤ n → HX H0 H') ∧ n ≤ H'.length := by
  cases h with
  | nil =>
    obtain ⟨v', H', e, o, x⟩ := vappend_nil (lim := lim) hy hn hl.2
    exact ⟨v', H', e, by simpa using o, fun H0 h0 _ => h0.trans x, by have := x.len; omega⟩
  | row h1 h3 =>
    rename_i b
    have hb := (List.getElem?_eq_some_iff.1 h3).1
    refine ⟨.sl H.length 0 (a ++ l).length 1, H.set b .dead ++ [.row (ints (a ++ l)) true], ?_, .row hn ?_, fun H0 hx hk => ?_, by simp; omega⟩
    · simp only [vappend, hy.cells, hy.len]
      simp [h3, show lim ≤ b by omega, show (a.length + l.length) * 8 ≤ 140737488355328 by omega, show a.length + l.length < 4611686018427387904 by omega]
      simp [ints]
    · have : H.length = (H.set b .dead).length := by simp
      rw [this]; exact List.getElem?_concat_length
    · obtain ⟨X, rfl⟩ := hx
      refine HX.of (by simp; omega) fun i hi => ?_
      rw [List.getElem?_append_left (by simp; omega), List.getElem?_set_ne (by omega), List.getElem?_append_left hi]
theorem vbounds_nat {len a b : Nat} {kk : IntKind} (h : a ≤ b ∧ b ≤ len) : vbounds len (some (.int kk (a : Int))) (some (.int kk (b : Int))) = some (a, b) := by
  have h1 : (a : Int) ≤ b := by omega
  have h2 : (b : Int) ≤ len := by omega
  simp [vbounds, vint, h1, h2]
/-- a row of a field's directions -/
theorem row_sub {w1 i : Nat} (hd : SlV H d D) (hi : (i + 1) * w1 ≤ D.length) (hw : 1 ≤ w1) : vslS 1 d (some (.int .i64 ((i : Int) * w1))) (some (.int .i64 (((i : Int) + 1) * w1))) = some (subV d (i * w1) ((i + 1) * w1)) ∧
    SlV H (subV d (i * w1) ((i + 1) * w1)) ((D.drop (i * w1)).take w1) := by
  have e1 : (i : Int) * w1 = ((i * w1 : Nat) : Int) := by simp
  have e2 : ((i : Int) + 1) * w1 = (((i + 1) * w1 : Nat) : Int) := by simp
  have e3 : (i + 1) * w1 - i * w1 = w1 := by rw [Nat.add_mul, Nat.one_mul]; omega
  have hab : i * w1 ≤ (i + 1) * w1 := Nat.mul_le_mul_right _ (by omega)
  have hm : 1 ≤ (i + 1) * w1 := Nat.le_trans hw (Nat.le_mul_of_pos_left _ (by omega))
  refine ⟨?_, ?_⟩
  · rw [e1, e2]
    exact hd.subW ⟨hab, hi⟩ (by omega) (vbounds_nat ⟨hab, hi⟩)
  · have := hd.sub (a := i * w1) (b := (i + 1) * w1) ⟨hab, hi⟩
    rwa [e3] at this

theorem OwnV.keepB {n : Nat} {H H' : Hp} {v : V} {l : List Int} (h : OwnV n H v l) (hk : ∀ b o k z, v = .sl b o k z → H'[b]? = H[b]?) : OwnV n H' v l := by
  cases h with
  | nil => exact .nil
  | row h1 h2 => exact .row h1 (by rw [hk _ _ _ _ rfl]; exact h2)
theorem OwnV.ge {n : Nat} {H : Hp} {v : V} {l : List Int} (h : OwnV n H v l) : ∀ b o k z, v = .sl b o k z → n ≤ b := by
  cases h with
  | nil => intro b o k z e; cases e
  | row h1 h2 => intro b o k z e; cases e; exact h1
theorem OwnT.lt {α : Type} {k : Nat} {c : Cod α k} {n : Nat} {H : Hp} {v : V} {l : List α} (h : OwnT n c H v l) : ∀ b o k z, v = .sl b o k z → b < H.length := by
  cases h with
  | nil => intro b o k z e; cases e
  | row h1 h2 => intro b o k z e; cases e; exact (List.getElem?_eq_some_iff.1 h2).1
def besE (W1 Q1 : Int) (D1 : List Int) (P1 : List Ed) (W2 Q2 : Int) (D2 : List Int) (P2 : List Ed) : Int :=
  if validP W1 Q1 D1 P1 ≠ 0 then validP W1 Q1 D1 P1 else if validP W2 Q2 D2 P2 ≠ 0 then validP W2 Q2 D2 P2 else if Q1 ≠ Q2 then 8 else if 12 < W1 + W2 then 4
  else validP (W1 + W2) Q1 (catR (besD W1.toNat W2.toNat D1 D2) Q1.toNat) (P1 ++ P2.map (shE W1 0))
theorem flow_checkedE (hd : SlV H d D) (hp : EdV H p P) (hW : I64 W) (hQ : I64 Q) (hl : D.length ≤ 1000 ∧ P.length ≤ 1000) (hlim : lim ≤ H.length)
    (hbad : validP W Q D P ≠ 0 → ∀ H', HX H H' → K (.tup [.agg [.int .i64 0, .int .i64 0, .snil, .snil], .int .i64 (validP W Q D P)]) H')
    (hK : validP W Q D P = 0 → ∀ H', HX H H' → K (.tup [.agg [.int .i64 W, .int .i64 Q, d, p], .int .i64 0]) H') : VCall tbl lim 59 [.agg [.int .i64 W, .int .i64 Q, d, p]] H K := by
  refine VCall_fn tbl_at59 rfl ?_
  simp [vf59, hd.stor, hp.stor]
  refine flow_Validate hd hp hW hQ hl hlim fun H1 x1 => ?_
  simp
  refine cond_ndec (fun h => ?_) fun h => ?_
  · simp; exact hbad h _ x1
  · simp [h, hd.stor, hp.stor]; exact hK h _ x1
theorem ref_resultE (hd : SlV H d D) (hp : EdV H p P) (hW : I64 W) (hQ : I64 Q) (hl : D.length ≤ 1000 ∧ P.length ≤ 1000) (hlim : lim ≤ H.length)
    (hbad : validP W Q D P ≠ 0 → ∀ H', HX H H' → K (.tup [.agg [.int .i64 0, .int .i64 0, .snil, .snil], .int .i64 (validP W Q D P)]) H')
    (hK : validP W Q D P = 0 → ∀ H', HX H H' → K (.tup [.agg [.int .i64 W, .int .i64 Q, d, p], .int .i64 0]) H') : VCall tbl lim 61 [.agg [.int .i64 W, .int .i64 Q, d, p]] H K := by
  refine VCall_fn tbl_at61 rfl ?_
  simp [vf61, hd.stor, hp.stor]
  refine ref_Validate hd hp hW hQ hl hlim fun H1 x1 => ?_
  simp
  refine cond_ndec (fun h => ?_) fun h => ?_
  · simp; exact hbad h _ x1
  · simp [h, hd.stor, hp.stor]; exact hK h _ x1
theorem flow_Beside {W2 Q2 : Int} {D2 : List Int} {P2 : List Ed} {d2 p2 : V} (hd : SlV H d D) (hp : EdV H p P) (hd2 : SlV H d2 D2) (hp2 : EdV H p2 P2) (hW : I64 W) (hQ : I64 Q) (hW2 : I64 W2) (hQ2 : I64 Q2) (hl : D.length ≤ 1000 ∧ P.length ≤ 1000) (hl2 : D2.length ≤ 1000 ∧ P2.length ≤ 1000) (hlim : lim ≤ H.length)
    (hbad : besE W Q D P W2 Q2 D2 P2 ≠ 0 → ∀ H', HX H H' → K (.tup [.agg [.int .i64 0, .int .i64 0, .snil, .snil], .int .i64 (besE W Q D P W2 Q2 D2 P2)]) H')
    (hK : besE W Q D P W2 Q2 D2 P2 = 0 → ∀ H' d' p', HX H H' → SlV H' d' (catR (besD W.toNat W2.toNat D D2) Q.toNat) → EdV H' p' (P ++ P2.map (shE W 0)) → K (.tup [.agg [.int .i64 (W + W2), .int .i64 Q, d', p'], .int .i64 0]) H') : VCall tbl lim 30 [.agg [.int .i64 W, .int .i64 Q, d, p], .agg [.int .i64 W2, .int .i64 Q2, d2, p2]] H K := by
  refine VCall_fn tbl_at30 rfl ?_
  simp [vf30, hd.stor, hp.stor, hd2.stor, hp2.stor]
  refine flow_Validate hd hp hW hQ hl hlim fun H1 x1 => ?_
  replace x1 : HX H H1 := x1
  have l1 := x1.len
  simp
  refine cond_ndec (fun h => ?_) fun h => ?_
  · have e : besE W Q D P W2 Q2 D2 P2 = validP W Q D P := by simp [besE, h]
    rw [e] at hbad
    simp; exact hbad h _ x1
  simp [hd2.stor, hp2.stor]
  refine flow_Validate (hd2.mono x1) (hp2.mono x1) hW2 hQ2 hl2 (by omega) fun H2 x2 => ?_
  replace x2 : HX H1 H2 := x2
  have l2 := x2.len
  simp
  refine cond_ndec (fun h2 => ?_) fun h2 => ?_
  · have e : besE W Q D P W2 Q2 D2 P2 = validP W2 Q2 D2 P2 := by simp [besE, h, h2]
    rw [e] at hbad
    simp; exact hbad h2 _ (x1.trans x2)
  simp
  refine cond_ndec (fun h3 => ?_) fun h3 => ?_
  · have e : besE W Q D P W2 Q2 D2 P2 = 8 := by simp [besE, h, h2, h3]
    rw [e] at hbad
    simp; exact hbad (by omega) _ (x1.trans x2)
  subst h3
  obtain ⟨w1, q, rfl, rfl, hf⟩ := valid_pre h
  obtain ⟨w2, q', rfl, eq, hf2⟩ := valid_pre h2
  have : q' = q := by omega
  subst this
  have b1 := hf.w1
  have b2 := hf2.w1
  have b3 := hf.q1
  simp (disch := omega) [wrap_i64]
  refine cond_dec (fun h4 => ?_) fun h4 => ?_
  · have e : besE w1 q' D P w2 q' D2 P2 = 4 := by simp [besE, h, h2]; omega
    rw [e] at hbad
    simp; exact hbad (by omega) _ (x1.trans x2)
  have eB : besE w1 q' D P w2 q' D2 P2 = validP ((w1 : Int) + w2) q' (catR (besD w1 w2 D D2) q') (P ++ P2.map (shE w1 0)) := by
    simp [besE, h, h2]; intro; omega
  have x12 := x1.trans x2
  simp (disch := omega) [wrap_i64, hp.stor]
  refine clone_eds (hp.lst.mono x12) (Nat.le_refl _) hl.2 fun H3 pc x3 oc => ?_
  replace x3 : HX H2 H3 := x3
  have l3 := x3.len
  simp [oc.lst.stor, oc.lst.one, splice]
  have hx03 := x12.trans x3
  have hdl1 := hf.dl
  have hdl2 := hf2.dl
  have n1 : D.length = w1 * q' := by
    have e : ((w1 * q' : Nat) : Int) = (w1 : Int) * q' := by simp
    omega
  have n2 : D2.length = w2 * q' := by
    have e : ((w2 * q' : Nat) : Int) = (w2 : Int) * q' := by simp
    omega
  have rl : ∀ i, i < q' → (besD w1 w2 D D2 i).length = w1 + w2 := by
    intro i hi
    have m1 : (i + 1) * w1 ≤ q' * w1 := Nat.mul_le_mul_right _ (by omega)
    have m2 : (i + 1) * w2 ≤ q' * w2 := Nat.mul_le_mul_right _ (by omega)
    rw [Nat.add_mul, Nat.one_mul] at m1 m2
    rw [Nat.mul_comm] at n1 n2
    simp [besD]; omega
  have cl : ∀ i, i ≤ q' → (catR (besD w1 w2 D D2) i).length = i * (w1 + w2) := by
    intro i hi
    match i with
    | 0 => simp [catR]
    | i + 1 => exact (catR_row (n := i + 1) (fun j hj => rl j (by omega)) (i := 0) (by omega)).2
  have cb : ∀ i, i ≤ q' → i * (w1 + w2) ≤ 12 * 24 := fun i hi => Nat.mul_le_mul (by omega) (by omega)
  refine wLoop_up q' (fun i fr L H' => ∃ v, (fr 2 = .lp 0 0 ∧ fr 3 = .lp 1 0 ∧ fr 4 = .lp 2 0 ∧ fr 8 = .lp 3 0 ∧ fr 49 = .int .i64 q' ∧ fr 50 = .int .i64 i) ∧ L = [[.int .i64 w1, .int .i64 q', d, p], [.int .i64 w2, .int .i64 q', d2, p2], [.int .i64 0, .int .i64 0, .snil, .snil], [.int .i64 ((w1 : Int) + w2), .int .i64 q', v, pc]] ∧ HX H3 H' ∧ OwnV H3.length H' v (catR (besD w1 w2 D D2) i)) ⟨.snil, by simp, by simp, .refl, .nil⟩ ?_
  rintro i hi fr L H4 ⟨v, ⟨f2, f3, f4, f8, f49, f50⟩, rfl, hx, hv⟩
  have hxl := hx.len
  simp [f2, f3, f4, f8, f49, f50]
  refine cond_dec (fun ht => ?_) fun hfl => ?_
  · have ht : i < q' := by omega
    have m1 : (i + 1) * w1 ≤ q' * w1 := Nat.mul_le_mul_right _ (by omega)
    have m2 : (i + 1) * w2 ≤ q' * w2 := Nat.mul_le_mul_right _ (by omega)
    have c1 := mul_bd (a := (i : Int)) (b := (w1 : Int)) (A := 12) (B := 12) (by omega) (by omega)
    have c2 := mul_bd (a := (i : Int)) (b := (w2 : Int)) (A := 12) (B := 12) (by omega) (by omega)
    have c3 := mul_bd (a := (i : Int) + 1) (b := (w1 : Int)) (A := 13) (B := 12) (by omega) (by omega)
    have c4 := mul_bd (a := (i : Int) + 1) (b := (w2 : Int)) (A := 13) (B := 12) (by omega) (by omega)
    have u1 : IntKind.i64.wrap ((i : Int) * w1) = i * w1 := wrap_i64 (by omega) (by omega)
    have u2 : IntKind.i64.wrap ((i : Int) * w2) = i * w2 := wrap_i64 (by omega) (by omega)
    have u3 : IntKind.i64.wrap (((i : Int) + 1) * w1) = (i + 1) * w1 := wrap_i64 (by omega) (by omega)
    have u4 : IntKind.i64.wrap (((i : Int) + 1) * w2) = (i + 1) * w2 := wrap_i64 (by omega) (by omega)
    obtain ⟨s1, o1⟩ := row_sub (i := i) (w1 := w1) (hd.mono (hx03.trans hx)) (by rw [n1, Nat.mul_comm w1]; exact m1) b1.1
    have k1 := cl i hi
    have k2 := cb i hi
    obtain ⟨v1, H5, a1, ov1, a3, a4⟩ := vapp_own (lim := lim) hv o1 (by omega) hx.len ⟨by omega, by simp; omega⟩
    have x5 := a3 _ hx (Nat.le_refl _)
    obtain ⟨s2, o2⟩ := row_sub (i := i) (w1 := w2) (hd2.mono (hx03.trans x5)) (by rw [n2, Nat.mul_comm w2]; exact m2) b2.1
    obtain ⟨v2, H6, a1', ov2, a3', a4'⟩ := vapp_own (lim := lim) ov1 o2 (by omega) a4 ⟨by simp; omega, by simp; omega⟩
    have x6 := a3' _ x5 (Nat.le_refl _)
    simp (disch := omega) [f2, f3, f4, f8, f49, f50, u1, u2, u3, u4, s1, s2, a1, a1', wrap_i64, ov1.sl.stor, ov1.sl.one, ov2.sl.stor, ov2.sl.one]
    refine ⟨by omega, x6, ?_⟩
    simp only [catR, besD]
    rw [← List.append_assoc]; exact ov2
  have e : q' = i := by omega
  subst e
  simp [f2, f3, f4, f8, hp2.len]
  have hpl2 := hf2.pl
  have hpl1 := hf.pl
  refine wLoop_up P2.length (fun i fr L H' => ∃ pv X, (fr 2 = .lp 0 0 ∧ fr 4 = .lp 2 0 ∧ fr 8 = .lp 3 0 ∧ fr 87 = p2 ∧ fr 88 = .int .i64 P2.length ∧ fr 89 = .int .i64 i) ∧ L = [.int .i64 w1, .int .i64 q', d, p] :: [.int .i64 w2, .int .i64 q', d2, p2] :: [.int .i64 0, .int .i64 0, .snil, .snil] :: [.int .i64 ((w1 : Int) + w2), .int .i64 q', v, pv] :: X ∧ HX H2 H' ∧
      OwnV H3.length H' v (catR (besD w1 w2 D D2) q') ∧ OwnT H2.length edC H' pv (P ++ (P2.take i).map (shE w1 0)) ∧ ∀ b o k z, v = .sl b o k z → ∀ o' k' z', pv ≠ .sl b o' k' z') ⟨pc, [], by simp [f2, f3, f4, f8, hp2.len], by simp, x3.trans hx, hv, by simpa using oc.mono hx, fun b o k z e o' k' z' e' => by
        have g1 := hv.ge _ _ _ _ e
        have g2 := oc.lt _ _ _ _ e'
        omega⟩ ?_
  clear f2 f3 f4 f8 f49 f50
  rintro i hi fr L H5 ⟨pv, X, ⟨f2, f4, f8, f87, f88, f89⟩, rfl, hx5, ov, op, hne⟩
  have hx5l := hx5.len
  simp [f2, f4, f8, f87, f88, f89]
  refine cond_dec (fun ht => ?_) fun hfl => ?_
  · have ht : i < P2.length := by omega
    have hp5 := hp2.mono (x12.trans hx5)
    have po := hf2.po i ht
    simp only [pOk, Bool.and_eq_true] at po
    have pe := po.1
    simp only [isEB, decide_eq_true_eq] at pe
    generalize he : P2.getD i default = e at *
    have ld : ∀ L, vload (some 3) L H5 (ept 3 p2 i) = some (.agg [.int .i64 e.x, .int .i64 e.y, .int .i64 e.u]) := fun L => by have := hp5.load (L := L) ht; rw [he] at this; exact this
    obtain ⟨pv', H6, a1, a2, a3, a4, a5, a6⟩ := op.append (lim := lim) (bytes := 24) (x := shE w1 0 e) (cs := [.int .i64 (e.x + w1), .int .i64 e.y, .int .i64 e.u]) (by simp [edC, Ed.cells, shE]) ⟨by omega, hx5.len⟩ (by omega) (by simp; omega)
    have e1 : P2.take (i + 1) = P2.take i ++ [e] := by
      rw [List.take_add_one, List.getElem?_eq_getElem ht]; simp [← he, List.getD_eq_getElem?_getD, ht]
    have hat := hp5.lst.at ht
    simp (disch := omega) [f2, f4, f8, f87, f88, f89, hat, ld, lastO, lastS, wrap_i64, a1, a2.lst.stor, a2.lst.one]
    refine ⟨by omega, a3 _ hx5 (Nat.le_refl _), ov.keepB fun b o k z e' => a6 b (ov.below _ _ _ _ e') (hne _ _ _ _ e'), ?_, fun b o k z e' o' k' z' e2 => ?_⟩
    · rw [← List.map_take, e1, List.map_append, ← List.append_assoc]; exact a2
    · have g1 := ov.below _ _ _ _ e'
      rcases vapp_sl a1 with g | ⟨n, g⟩
      · rw [g] at e2; cases e2
      · rw [g] at e2; cases e2; simp only [List.length_append, List.length_singleton] at g1; omega
  have : i = P2.length := by omega
  subst this
  rw [List.take_length] at op
  have hed : EdV H5 pv (P ++ P2.map (shE w1 0)) := by
    refine ⟨op.lst, fun e he => ?_⟩
    rcases List.mem_append.1 he with he | he
    · exact hp.all e he
    · obtain ⟨e0, he0, rfl⟩ := List.mem_map.1 he
      obtain ⟨j, hj, rfl⟩ := List.getElem_of_mem he0
      have po := hf2.po j hj
      simp only [pOk, Bool.and_eq_true] at po
      have pe := po.1
      have ej : P2.getD j default = P2[j] := by simp [List.getD_eq_getElem?_getD, hj]
      rw [ej] at pe
      simp only [isEB, decide_eq_true_eq] at pe
      unfold Ed.in64 I64 shE; simp only; omega
  have k1 := cl q' (Nat.le_refl _)
  have k2 := cb q' (Nat.le_refl _)
  rw [eB] at hbad hK
  simp only [Int.toNat_natCast] at hK
  have hx05 := x12.trans hx5
  simp [f4, f8, ov.sl.stor, op.lst.stor]
  refine flow_checkedE ov.sl hed (by unfold I64; omega) hQ ⟨by omega, by simp; omega⟩ (by omega) (fun hb H6 x6 => ?_) fun hg H6 x6 => ?_
  · replace x6 : HX H5 H6 := x6
    simp [f4]
    exact hbad hb _ (hx05.trans x6)
  · replace x6 : HX H5 H6 := x6
    simp [f4, ov.sl.stor, op.lst.stor]
    exact hK hg _ _ _ (hx05.trans x6) (ov.sl.mono x6) (hed.mono x6)
theorem vapp_nilT {α : Type} {k : Nat} {c : Cod α k} {y : V} {l : List α} {bytes n : Nat} (hy : LstV c H y l) (hn : n ≤ H.length) (hl : l.length ≤ 1000) (hb : bytes ≤ 1000) : ∃ v' H', vappend lim k bytes H .snil y = some (v', H') ∧ OwnT n c H' v' l ∧ HX H H' := by
  have hm : l.length * bytes ≤ 1000 * 1000 := Nat.mul_le_mul hl hb
  by_cases h0 : l = []
  · subst h0
    exact ⟨.snil, H, by simp [vappend, hy.cells, hy.len], .nil, .refl⟩
  · have hp : 0 < l.length := List.length_pos_iff.2 h0
    refine ⟨.sl H.length 0 l.length k, H ++ [.row (c.all l) true], ?_, .row hn List.getElem?_concat_length, .push⟩
    simp [vappend, hy.cells, hy.len, h0, show l.length * bytes ≤ 140737488355328 by omega, show l.length < 4611686018427387904 by omega]
theorem ref_Beside {W2 Q2 : Int} {D2 : List Int} {P2 : List Ed} {d2 p2 : V} (hd : SlV H d D) (hp : EdV H p P) (hd2 : SlV H d2 D2) (hp2 : EdV H p2 P2) (hW : I64 W) (hQ : I64 Q) (hW2 : I64 W2) (hQ2 : I64 Q2) (hl : D.length ≤ 1000 ∧ P.length ≤ 1000) (hl2 : D2.length ≤ 1000 ∧ P2.length ≤ 1000) (hlim : lim ≤ H.length)
    (hbad : besE W Q D P W2 Q2 D2 P2 ≠ 0 → ∀ H', HX H H' → K (.tup [.agg [.int .i64 0, .int .i64 0, .snil, .snil], .int .i64 (besE W Q D P W2 Q2 D2 P2)]) H')
    (hK : besE W Q D P W2 Q2 D2 P2 = 0 → ∀ H' d' p', HX H H' → SlV H' d' (catR (besD W.toNat W2.toNat D D2) Q.toNat) → EdV H' p' (P ++ P2.map (shE W 0)) → K (.tup [.agg [.int .i64 (W + W2), .int .i64 Q, d', p'], .int .i64 0]) H') : VCall tbl lim 31 [.agg [.int .i64 W, .int .i64 Q, d, p], .agg [.int .i64 W2, .int .i64 Q2, d2, p2]] H K := by
  refine VCall_fn tbl_at31 rfl ?_
  simp [vf31, hd.stor, hp.stor, hd2.stor, hp2.stor]
  refine ref_Validate hd hp hW hQ hl hlim fun H1 x1 => ?_
  replace x1 : HX H H1 := x1
  have l1 := x1.len
  simp
  refine cond_ndec (fun h => ?_) fun h => ?_
  · have e : besE W Q D P W2 Q2 D2 P2 = validP W Q D P := by simp [besE, h]
    rw [e] at hbad
    simp; exact hbad h _ x1
  simp [hd2.stor, hp2.stor]
  refine ref_Validate (hd2.mono x1) (hp2.mono x1) hW2 hQ2 hl2 (by omega) fun H2 x2 => ?_
  replace x2 : HX H1 H2 := x2
  have l2 := x2.len
  simp
  refine cond_ndec (fun h2 => ?_) fun h2 => ?_
  · have e : besE W Q D P W2 Q2 D2 P2 = validP W2 Q2 D2 P2 := by simp [besE, h, h2]
    rw [e] at hbad
    simp; exact hbad h2 _ (x1.trans x2)
  simp
  refine cond_ndec (fun h3 => ?_) fun h3 => ?_
  · have e : besE W Q D P W2 Q2 D2 P2 = 8 := by simp [besE, h, h2, h3]
    rw [e] at hbad
    simp; exact hbad (by omega) _ (x1.trans x2)
  subst h3
  obtain ⟨w1, q, rfl, rfl, hf⟩ := valid_pre h
  obtain ⟨w2, q', rfl, eq, hf2⟩ := valid_pre h2
  have : q' = q := by omega
  subst this
  have b1 := hf.w1
  have b2 := hf2.w1
  have b3 := hf.q1
  simp (disch := omega) [wrap_i64]
  refine cond_dec (fun h4 => ?_) fun h4 => ?_
  · have e : besE w1 q' D P w2 q' D2 P2 = 4 := by simp [besE, h, h2]; omega
    rw [e] at hbad
    simp; exact hbad (by omega) _ (x1.trans x2)
  have eB : besE w1 q' D P w2 q' D2 P2 = validP ((w1 : Int) + w2) q' (catR (besD w1 w2 D D2) q') (P ++ P2.map (shE w1 0)) := by
    simp [besE, h, h2]; intro; omega
  have x12 := x1.trans x2
  simp (disch := omega) [wrap_i64, splice]
  have hdl1 := hf.dl
  have hdl2 := hf2.dl
  have n1 : D.length = w1 * q' := by
    have e : ((w1 * q' : Nat) : Int) = (w1 : Int) * q' := by simp
    omega
  have n2 : D2.length = w2 * q' := by
    have e : ((w2 * q' : Nat) : Int) = (w2 : Int) * q' := by simp
    omega
  have rl : ∀ i, i < q' → (besD w1 w2 D D2 i).length = w1 + w2 := by
    intro i hi
    have m1 : (i + 1) * w1 ≤ q' * w1 := Nat.mul_le_mul_right _ (by omega)
    have m2 : (i + 1) * w2 ≤ q' * w2 := Nat.mul_le_mul_right _ (by omega)
    rw [Nat.add_mul, Nat.one_mul] at m1 m2
    rw [Nat.mul_comm] at n1 n2
    simp [besD]; omega
  have cl : ∀ i, i ≤ q' → (catR (besD w1 w2 D D2) i).length = i * (w1 + w2) := by
    intro i hi
    match i with
    | 0 => simp [catR]
    | i + 1 => exact (catR_row (n := i + 1) (fun j hj => rl j (by omega)) (i := 0) (by omega)).2
  have cb : ∀ i, i ≤ q' → i * (w1 + w2) ≤ 12 * 24 := fun i hi => Nat.mul_le_mul (by omega) (by omega)
  refine wLoop_up q' (fun i fr L H' => ∃ v, (fr 2 = .lp 0 0 ∧ fr 3 = .lp 1 0 ∧ fr 4 = .lp 2 0 ∧ fr 8 = .lp 3 0 ∧ fr 9 = .int .i64 i) ∧ L = [[.int .i64 w1, .int .i64 q', d, p], [.int .i64 w2, .int .i64 q', d2, p2], [.int .i64 0, .int .i64 0, .snil, .snil], [.int .i64 ((w1 : Int) + w2), .int .i64 q', v, .snil]] ∧ HX H2 H' ∧ OwnV H2.length H' v (catR (besD w1 w2 D D2) i)) ⟨.snil, by simp, by simp, .refl, .nil⟩ ?_
  rintro i hi fr L H4 ⟨v, ⟨f2, f3, f4, f8, f9⟩, rfl, hx, hv⟩
  have hxl := hx.len
  simp [f2, f3, f4, f8, f9]
  refine cond_dec (fun ht => ?_) fun hfl => ?_
  · have ht : i < q' := by omega
    have m1 : (i + 1) * w1 ≤ q' * w1 := Nat.mul_le_mul_right _ (by omega)
    have m2 : (i + 1) * w2 ≤ q' * w2 := Nat.mul_le_mul_right _ (by omega)
    have c1 := mul_bd (a := (i : Int)) (b := (w1 : Int)) (A := 12) (B := 12) (by omega) (by omega)
    have c2 := mul_bd (a := (i : Int)) (b := (w2 : Int)) (A := 12) (B := 12) (by omega) (by omega)
    have c3 := mul_bd (a := (i : Int) + 1) (b := (w1 : Int)) (A := 13) (B := 12) (by omega) (by omega)
    have c4 := mul_bd (a := (i : Int) + 1) (b := (w2 : Int)) (A := 13) (B := 12) (by omega) (by omega)
    have u1 : IntKind.i64.wrap ((i : Int) * w1) = i * w1 := wrap_i64 (by omega) (by omega)
    have u2 : IntKind.i64.wrap ((i : Int) * w2) = i * w2 := wrap_i64 (by omega) (by omega)
    have u3 : IntKind.i64.wrap (((i : Int) + 1) * w1) = (i + 1) * w1 := wrap_i64 (by omega) (by omega)
    have u4 : IntKind.i64.wrap (((i : Int) + 1) * w2) = (i + 1) * w2 := wrap_i64 (by omega) (by omega)
    obtain ⟨s1, o1⟩ := row_sub (i := i) (w1 := w1) (hd.mono (x12.trans hx)) (by rw [n1, Nat.mul_comm w1]; exact m1) b1.1
    have k1 := cl i hi
    have k2 := cb i hi
    obtain ⟨v1, H5, a1, ov1, a3, a4⟩ := vapp_own (lim := lim) hv o1 (by omega) hx.len ⟨by omega, by simp; omega⟩
    have x5 := a3 _ hx (Nat.le_refl _)
    obtain ⟨s2, o2⟩ := row_sub (i := i) (w1 := w2) (hd2.mono (x12.trans x5)) (by rw [n2, Nat.mul_comm w2]; exact m2) b2.1
    obtain ⟨v2, H6, a1', ov2, a3', a4'⟩ := vapp_own (lim := lim) ov1 o2 (by omega) a4 ⟨by simp; omega, by simp; omega⟩
    have x6 := a3' _ x5 (Nat.le_refl _)
    simp (disch := omega) [f2, f3, f4, f8, f9, u1, u2, u3, u4, s1, s2, a1, a1', wrap_i64, ov1.sl.stor, ov1.sl.one, ov2.sl.stor, ov2.sl.one]
    refine ⟨by omega, x6, ?_⟩
    simp only [catR, besD]
    rw [← List.append_assoc]; exact ov2
  have e : q' = i := by omega
  subst e
  have hpl2 := hf2.pl
  have hpl1 := hf.pl
  obtain ⟨pc, H5', ap, oc, x5'⟩ := vapp_nilT (lim := lim) (bytes := 24) (n := H4.length) ((hp.mono (x12.trans hx)).lst) (Nat.le_refl _) (by omega) (by omega)
  simp [f2, f3, f4, f8, ap, oc.lst.stor, oc.lst.one]
  refine wLoop_up P2.length (fun i fr L H' => ∃ pv X, (fr 2 = .lp 0 0 ∧ fr 3 = .lp 1 0 ∧ fr 4 = .lp 2 0 ∧ fr 8 = .lp 3 0 ∧ fr 10 = .int .i64 i) ∧ L = [.int .i64 w1, .int .i64 q', d, p] :: [.int .i64 w2, .int .i64 q', d2, p2] :: [.int .i64 0, .int .i64 0, .snil, .snil] :: [.int .i64 ((w1 : Int) + w2), .int .i64 q', v, pv] :: X ∧ HX H4 H' ∧ OwnT H4.length edC H' pv (P ++ (P2.take i).map (shE w1 0))) ⟨pc, [], by simp [f2, f3, f4, f8], by simp, x5', by simpa using oc⟩ ?_
  clear f2 f3 f4 f8 f9
  rintro i hi fr L H5 ⟨pv, X, ⟨f2, f3, f4, f8, f10⟩, rfl, hx5, op⟩
  have ov := hv.mono hx5
  have hx5l := hx5.len
  simp [f2, f3, f4, f8, f10, hp2.len]
  refine cond_dec (fun ht => ?_) fun hfl => ?_
  · have ht : i < P2.length := by omega
    have hp5 := hp2.mono ((x12.trans hx).trans hx5)
    have po := hf2.po i ht
    simp only [pOk, Bool.and_eq_true] at po
    have pe := po.1
    simp only [isEB, decide_eq_true_eq] at pe
    generalize he : P2.getD i default = e at *
    have ld : ∀ L, vload (some 3) L H5 (ept 3 p2 i) = some (.agg [.int .i64 e.x, .int .i64 e.y, .int .i64 e.u]) := fun L => by have := hp5.load (L := L) ht; rw [he] at this; exact this
    obtain ⟨pv', H6, a1, a2, a3, a4, a5, a6⟩ := op.append (lim := lim) (bytes := 24) (x := shE w1 0 e) (cs := [.int .i64 (e.x + w1), .int .i64 e.y, .int .i64 e.u]) (by simp [edC, Ed.cells, shE]) ⟨by omega, hx5.len⟩ (by omega) (by simp; omega)
    have e1 : P2.take (i + 1) = P2.take i ++ [e] := by
      rw [List.take_add_one, List.getElem?_eq_getElem ht]; simp [← he, List.getD_eq_getElem?_getD, ht]
    have hat := hp5.lst.at ht
    simp (disch := omega) [f2, f3, f4, f8, f10, hat, ld, lastO, lastS, wrap_i64, a1, a2.lst.stor, a2.lst.one]
    refine ⟨by omega, a3 _ hx5 (Nat.le_refl _), ?_⟩
    rw [← List.map_take, e1, List.map_append, ← List.append_assoc]; exact a2
  have : i = P2.length := by omega
  subst this
  rw [List.take_length] at op
  have hed : EdV H5 pv (P ++ P2.map (shE w1 0)) := by
    refine ⟨op.lst, fun e he => ?_⟩
    rcases List.mem_append.1 he with he | he
    · exact hp.all e he
    · obtain ⟨e0, he0, rfl⟩ := List.mem_map.1 he
      obtain ⟨j, hj, rfl⟩ := List.getElem_of_mem he0
      have po := hf2.po j hj
      simp only [pOk, Bool.and_eq_true] at po
      have pe := po.1
      have ej : P2.getD j default = P2[j] := by simp [List.getD_eq_getElem?_getD, hj]
      rw [ej] at pe
      simp only [isEB, decide_eq_true_eq] at pe
      unfold Ed.in64 I64 shE; simp only; omega
  have k1 := cl q' (Nat.le_refl _)
  have k2 := cb q' (Nat.le_refl _)
  rw [eB] at hbad hK
  simp only [Int.toNat_natCast] at hK
  have hx05 := (x12.trans hx).trans hx5
  simp [f4, f8, ov.sl.stor, op.lst.stor]
  refine ref_resultE ov.sl hed (by unfold I64; omega) hQ ⟨by omega, by simp; omega⟩ (by omega) (fun hb H6 x6 => ?_) fun hg H6 x6 => ?_
  · replace x6 : HX H5 H6 := x6
    simp [f4]
    exact hbad hb _ (hx05.trans x6)
  · replace x6 : HX H5 H6 := x6
    simp [f4, ov.sl.stor, op.lst.stor]
    exact hK hg _ _ _ (hx05.trans x6) (ov.sl.mono x6) (hed.mono x6)
end
end Go.Proofs.Ytjchpgkibhdoiaa.Vm
