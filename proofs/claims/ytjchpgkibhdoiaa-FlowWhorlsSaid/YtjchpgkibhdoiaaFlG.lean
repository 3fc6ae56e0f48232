/- Fields of directions over the machine: FlowWhorls. -/
import Derived.Test.YtjchpgkibhdoiaaFlF
namespace Go.Proofs.Ytjchpgkibhdoiaa.Vm
open Go
set_option maxRecDepth 100000
set_option linter.unusedSimpArgs false
set_option linter.unusedVariables false
attribute [-simp] List.getD_eq_getElem?_getD

/-- four quarters are a number of half turns -/
theorem PreF.half {w q : Nat} {D : List Int} {P : List Ed} (h : PreF w q D P) (x y : Int) :
    (rndP w D P x y - 4 * (cntE P x y 0 P.length + cntE P (x + 1) y 1 P.length + cntE P x (y + 1) 0 P.length + cntE P x y 1 P.length)) % 8 = 0 := by
  have a1 : (y + 1) * (w : Int) = y * w + w := by rw [Int.add_mul, Int.one_mul]
  have e0 : dlt w D x y 0 = D.getD (y * w + x + 1).toNat 0 - D.getD (y * w + x).toNat 0 := by simp [dlt]
  have e1 : dlt w D (x + 1) y 1 = D.getD (y * w + x + 1 + w).toNat 0 - D.getD (y * w + x + 1).toNat 0 := by
    simp only [dlt, if_true, ← Int.add_assoc]
  have e2 : dlt w D x (y + 1) 0 = D.getD (y * w + x + 1 + w).toNat 0 - D.getD (y * w + x + w).toNat 0 := by
    simp only [dlt, a1, show ¬ (0 : Int) = 1 by omega, if_false]
    rw [show y * (w : Int) + w + x + 1 = y * w + x + 1 + w by omega, show y * (w : Int) + w + x = y * w + x + w by omega]
  have e3 : dlt w D x y 1 = D.getD (y * w + x + w).toNat 0 - D.getD (y * w + x).toNat 0 := by simp [dlt]
  simp only [rndP, tnP, nrm, e0, e1, e2, e3]
  omega

def whL (w : Nat) (D : List Int) (P : List Ed) (y : Nat) : Nat → List Ed
  | 0 => []
  | x + 1 => whL w D P y x ++ (if rndP w D P x y = 0 then [] else [⟨x, y, (rndP w D P x y).tdiv 4⟩])
def whR (w : Nat) (D : List Int) (P : List Ed) : Nat → List Ed
  | 0 => []
  | y + 1 => whR w D P y ++ whL w D P y (w - 1)
theorem whL_len {w : Nat} {D : List Int} {P : List Ed} {y : Nat} : ∀ x, (whL w D P y x).length ≤ x
  | 0 => by simp [whL]
  | x + 1 => by
    have := whL_len (w := w) (D := D) (P := P) (y := y) x
    simp only [whL, List.length_append]; split <;> simp <;> omega
theorem whR_len {w : Nat} (hw : w ≤ 12) {D : List Int} {P : List Ed} : ∀ y, (whR w D P y).length ≤ 12 * y
  | 0 => by simp [whR]
  | y + 1 => by
    have := whR_len hw (D := D) (P := P) y
    have := whL_len (w := w) (D := D) (P := P) (y := y) (w - 1)
    simp only [whR, List.length_append]; omega
def whOk (w q : Nat) (D : List Int) (P : List Ed) (l : List Ed) : Prop := ∀ e ∈ l, isSB w q e.x e.y = true ∧ rndP w D P e.x e.y ≠ 0 ∧ e.u = (rndP w D P e.x e.y).tdiv 4
theorem whOk.app {w q : Nat} {D : List Int} {P : List Ed} {l m : List Ed} (h : whOk w q D P l) (h2 : whOk w q D P m) : whOk w q D P (l ++ m) := by
  intro e he
  rcases List.mem_append.1 he with he | he
  · exact h e he
  · exact h2 e he
theorem whL_ok {w q : Nat} {D : List Int} {P : List Ed} {y : Nat} (hy : y + 1 < q) : ∀ x, x + 1 ≤ w → whOk w q D P (whL w D P y x)
  | 0, _ => by intro e he; simp [whL] at he
  | x + 1, hx => by
    refine (whL_ok hy x (by omega)).app ?_
    intro e he
    split at he
    · simp at he
    · rename_i h
      simp at he; subst he
      refine ⟨?_, h, rfl⟩
      simp [isSB]; omega
theorem whR_ok {w q : Nat} {D : List Int} {P : List Ed} (hw : 1 ≤ w) : ∀ y, y + 1 ≤ q → whOk w q D P (whR w D P y)
  | 0, _ => by intro e he; simp [whR] at he
  | y + 1, hy => (whR_ok hw y (by omega)).app (whL_ok (by omega) _ (by omega))
def whP (W Q : Int) (D : List Int) (P : List Ed) : List Ed := if validP W Q D P = 0 then whR W.toNat D P (Q.toNat - 1) else []

/-- a parting at a square -/
def lies (e : Ed) (x y : Int) : Bool := (decide (e.u = 0) && (decide (e.x = x) && (decide (e.y = y) || decide (e.y = y + 1)))) || (decide (e.u = 1) && (decide (e.y = y) && (decide (e.x = x) || decide (e.x = x + 1))))
def oddP (P : List Ed) (x y : Int) : Nat → Bool
  | 0 => false
  | k + 1 => oddP P x y k != lies (P.getD k default) x y
theorem odd_cnt {P : List Ed} {x y : Int} : ∀ k, (oddP P x y k = true ↔ (cntE P x y 0 k + cntE P (x + 1) y 1 k + cntE P x (y + 1) 0 k + cntE P x y 1 k) % 2 = 1)
  | 0 => by simp [oddP, cntE]
  | k + 1 => by
    have ih := odd_cnt (P := P) (x := x) (y := y) k
    generalize hs : cntE P x y 0 k + cntE P (x + 1) y 1 k + cntE P x (y + 1) 0 k + cntE P x y 1 k = S at *
    have hl : lies (P.getD k default) x y = true ↔ ((P.getD k default).u = 0 ∧ (P.getD k default).x = x ∧ ((P.getD k default).y = y ∨ (P.getD k default).y = y + 1)) ∨ ((P.getD k default).u = 1 ∧ (P.getD k default).y = y ∧ ((P.getD k default).x = x ∨ (P.getD k default).x = x + 1)) := by
      simp [lies]
    have e : cntE P x y 0 (k + 1) + cntE P (x + 1) y 1 (k + 1) + cntE P x (y + 1) 0 (k + 1) + cntE P x y 1 (k + 1) = S + if lies (P.getD k default) x y = true then 1 else 0 := by
      simp only [hl, cntE]
      generalize (P.getD k default).x = a
      generalize (P.getD k default).y = b
      generalize (P.getD k default).u = c
      by_cases c0 : c = 0
      · subst c0
        by_cases a0 : a = x
        · subst a0
          by_cases b0 : b = y
          · subst b0
            simp; omega
          · by_cases b1 : b = y + 1
            · subst b1
              simp; omega
            · simp [b0, b1]; omega
        · simp [a0]; omega
      · by_cases c1 : c = 1
        · subst c1
          by_cases b0 : b = y
          · subst b0
            by_cases a0 : a = x
            · subst a0; simp; omega
            · by_cases a1 : a = x + 1
              · subst a1; simp; omega
              · simp [a0, a1]; omega
          · simp [b0]; omega
        · simp [c0, c1]; omega
    rw [e]
    simp only [oddP]
    cases h1 : oddP P x y k <;> cases h2 : lies (P.getD k default) x y <;> simp [h1] at ih ⊢ <;> omega
theorem PreF.odd {w q : Nat} {D : List Int} {P : List Ed} (h : PreF w q D P) (x y : Int) : (oddP P x y P.length = true ↔ ¬ ((rndP w D P x y).tdiv 4).tmod 2 = 0) := by
  rw [odd_cnt]
  have := h.half x y
  generalize cntE P x y 0 P.length + cntE P (x + 1) y 1 P.length + cntE P x (y + 1) 0 P.length + cntE P x y 1 P.length = S at *
  obtain ⟨m, hm⟩ : ∃ m, rndP w D P x y = 4 * m := ⟨rndP w D P x y / 4, by omega⟩
  have e : (rndP w D P x y).tdiv 4 = m := by rw [hm, Int.mul_tdiv_cancel_left _ (by omega)]
  rw [e]
  have hp : m.tmod 2 = 0 ↔ m % 2 = 0 := by
    rw [← Int.dvd_iff_tmod_eq_zero, Int.dvd_iff_emod_eq_zero]
  rw [hp]
  omega
theorem PreF.tdz {w q : Nat} {D : List Int} {P : List Ed} (h : PreF w q D P) (x y : Int) : (rndP w D P x y).tdiv 4 = 0 ↔ rndP w D P x y = 0 := by
  have := h.half x y
  obtain ⟨m, hm⟩ : ∃ m, rndP w D P x y = 4 * m := ⟨rndP w D P x y / 4, by omega⟩
  rw [hm, Int.mul_tdiv_cancel_left _ (by omega)]
  omega
section
variable {lim : Nat} {H : Hp} {K : V → Hp → Prop} {v d p : V} {D : List Int} {P : List Ed} {W Q x y u : Int} {w q : Nat}
theorem flow_Whorls (hd : SlV H d D) (hp : EdV H p P) (hW : I64 W) (hQ : I64 Q) (hl : D.length ≤ 1000 ∧ P.length ≤ 1000) (hlim : lim ≤ H.length) (hK : ∀ H' v, HX H H' → OwnT H.length edC H' v (whP W Q D P) → K (.tup [v, .int .i64 (validP W Q D P)]) H') : VCall tbl lim 20 [.agg [.int .i64 W, .int .i64 Q, d, p]] H K := by
  refine VCall_fn tbl_at20 rfl ?_
  simp [vf20, hd.stor, hp.stor]
  refine flow_Validate hd hp hW hQ hl hlim fun H1 x1 => ?_
  replace x1 : HX H H1 := x1
  have l1 := x1.len
  simp
  refine cond_ndec (fun h => ?_) fun h => ?_
  · simp
    refine hK _ _ x1 ?_
    simp only [whP, h, if_false]
    exact .nil
  obtain ⟨w, q, rfl, rfl, hf⟩ := valid_pre h
  have hw1 := hf.w1
  have hq1 := hf.q1
  have hfin : whP w q D P = whR w D P (q - 1) := by simp [whP, h]
  rw [hfin, h] at hK
  simp (disch := omega) [wrap_i64]
  refine wLoop_up (q - 1) (fun j fr L H' => ∃ v, (fr 1 = .lp 0 0 ∧ fr 5 = v ∧ fr 16 = .int .i64 ((q : Int) - 1) ∧ fr 17 = .int .i64 j) ∧ L = [[.int .i64 w, .int .i64 q, d, p]] ∧ HX H H' ∧ OwnT H.length edC H' v (whR w D P j)) ⟨.snil, by simp, rfl, x1, .nil⟩ ?_
  rintro j hj fr L H' ⟨v, ⟨f1, f5, f16, f17⟩, rfl, hx, hv⟩
  simp [f1, f5, f16, f17]
  refine cond_dec (fun ht => ?_) fun hfl => ?_
  · have ht : j + 1 < q := by omega
    simp (disch := omega) [f1, f5, f16, f17, wrap_i64]
    refine wLoop_up (w - 1) (fun i fr L H' => ∃ v, (fr 1 = .lp 0 0 ∧ fr 5 = v ∧ fr 6 = .int .i64 j ∧ fr 16 = .int .i64 ((q : Int) - 1) ∧ fr 17 = .int .i64 j ∧ fr 22 = .int .i64 ((w : Int) - 1) ∧ fr 23 = .int .i64 i) ∧ L = [[.int .i64 w, .int .i64 q, d, p]] ∧ HX H H' ∧ OwnT H.length edC H' v (whR w D P j ++ whL w D P j i)) ⟨v, by simp [f1, f5, f16, f17], rfl, hx, by simpa [whL] using hv⟩ ?_
    clear f1 f5 f16 f17 hx hv
    rintro i hi fr L H' ⟨v, ⟨f1, f5, f6, f16, f17, f22, f23⟩, rfl, hx, hv⟩
    simp [f1, f5, f6, f16, f17, f22, f23]
    refine cond_dec (fun ht2 => ?_) fun hfl2 => ?_
    · have ht2 : i + 1 < w := by omega
      have hs : isSB w q i j = true := by simp [isSB]; omega
      simp [f1, f5, f6, f16, f17, f22, f23, hd.stor, hp.stor]
      refine flow_index (hd.mono hx) (hp.mono hx) hf hs ?_
      have hb := rnd_bd (w := w) (D := D) (P := P) (x := i) (y := j)
      have hxl := hx.len
      have z := hf.tdz i j
      simp
      refine cond_ndec (fun h0 => ?_) fun h0 => ?_
      · have h0 : rndP w D P i j ≠ 0 := fun e => h0 (z.2 e)
        have hll : (whR w D P j ++ whL w D P j i).length ≤ 1000 := by
          have := whR_len (w := w) (by omega) (D := D) (P := P) j
          have := whL_len (w := w) (D := D) (P := P) (y := j) i
          simp only [List.length_append]; omega
        obtain ⟨v', H3, a1, a2, a3, a4, a5, a6⟩ := hv.append (lim := lim) (bytes := 24) (x := ⟨i, j, (rndP w D P i j).tdiv 4⟩) (cs := [.int .i64 i, .int .i64 j, .int .i64 ((rndP w D P i j).tdiv 4)]) rfl ⟨hlim, hx.len⟩ (by omega) (by omega)
        simp (disch := omega) [f1, f5, f6, f16, f17, f22, f23, a1, wrap_i64]
        refine ⟨by omega, a3 _ hx (Nat.le_refl _), ?_⟩
        simp only [whL, h0, if_false]
        rw [← List.append_assoc]; exact a2
      · have h0 : rndP w D P i j = 0 := z.1 h0
        simp (disch := omega) [f1, f5, f6, f16, f17, f22, f23, wrap_i64]
        refine ⟨by omega, hx, ?_⟩
        simp only [whL, h0, if_true, List.append_nil]
        exact hv
    · have : i = w - 1 := by omega
      subst this
      simp (disch := omega) [f1, f5, f6, f16, f17, f22, f23, wrap_i64]
      refine ⟨by omega, hx, ?_⟩
      simpa [whR] using hv
  · have : j = q - 1 := by omega
    subst this
    simp [f1, f5, f16, f17, hv.lst.stor]
    exact hK _ _ hx hv
theorem ref_Whorls (hd : SlV H d D) (hp : EdV H p P) (hW : I64 W) (hQ : I64 Q) (hl : D.length ≤ 1000 ∧ P.length ≤ 1000) (hlim : lim ≤ H.length) (hK : ∀ H' v, HX H H' → OwnT H.length edC H' v (whP W Q D P) → K (.tup [v, .int .i64 (validP W Q D P)]) H') : VCall tbl lim 21 [.agg [.int .i64 W, .int .i64 Q, d, p]] H K := by
  refine VCall_fn tbl_at21 rfl ?_
  simp [vf21, hd.stor, hp.stor]
  refine ref_Validate hd hp hW hQ hl hlim fun H1 x1 => ?_
  replace x1 : HX H H1 := x1
  have l1 := x1.len
  simp
  refine cond_ndec (fun h => ?_) fun h => ?_
  · simp
    refine hK _ _ x1 ?_
    simp only [whP, h, if_false]
    exact .nil
  obtain ⟨w, q, rfl, rfl, hf⟩ := valid_pre h
  have hw1 := hf.w1
  have hq1 := hf.q1
  have hfin : whP w q D P = whR w D P (q - 1) := by simp [whP, h]
  rw [hfin, h] at hK
  simp
  refine wLoop_up (q - 1) (fun j fr L H' => ∃ v, (fr 1 = .lp 0 0 ∧ fr 5 = v ∧ fr 6 = .int .i64 j) ∧ L = [[.int .i64 w, .int .i64 q, d, p]] ∧ HX H H' ∧ OwnT H.length edC H' v (whR w D P j)) ⟨.snil, by simp, rfl, x1, .nil⟩ ?_
  rintro j hj fr L H' ⟨v, ⟨f1, f5, f6⟩, rfl, hx, hv⟩
  simp (disch := omega) [f1, f5, f6, wrap_i64]
  refine cond_dec (fun ht => ?_) fun hfl => ?_
  · have ht : j + 1 < q := by omega
    simp (disch := omega) [f1, f5, f6, wrap_i64]
    refine wLoop_up (w - 1) (fun i fr L H' => ∃ v, (fr 1 = .lp 0 0 ∧ fr 5 = v ∧ fr 6 = .int .i64 j ∧ fr 7 = .int .i64 i) ∧ L = [[.int .i64 w, .int .i64 q, d, p]] ∧ HX H H' ∧ OwnT H.length edC H' v (whR w D P j ++ whL w D P j i)) ⟨v, by simp [f1, f5, f6], rfl, hx, by simpa [whL] using hv⟩ ?_
    clear f1 f5 f6 hx hv
    rintro i hi fr L H' ⟨v, ⟨f1, f5, f6, f7⟩, rfl, hx, hv⟩
    simp (disch := omega) [f1, f5, f6, f7, wrap_i64]
    refine cond_dec (fun ht2 => ?_) fun hfl2 => ?_
    · have ht2 : i + 1 < w := by omega
      have hs : isSB w q i j = true := by simp [isSB]; omega
      simp [f1, f5, f6, f7, hd.stor, hp.stor]
      refine ref_round (hd.mono hx) (hp.mono hx) hf hs ?_
      have hb := rnd_bd (w := w) (D := D) (P := P) (x := i) (y := j)
      have hb2 := td4 hb.1 hb.2
      have hxl := hx.len
      simp
      refine cond_ndec (fun h0 => ?_) fun h0 => ?_
      · have hll : (whR w D P j ++ whL w D P j i).length ≤ 1000 := by
          have := whR_len (w := w) (by omega) (D := D) (P := P) j
          have := whL_len (w := w) (D := D) (P := P) (y := j) i
          simp only [List.length_append]; omega
        obtain ⟨v', H3, a1, a2, a3, a4, a5, a6⟩ := hv.append (lim := lim) (bytes := 24) (x := ⟨i, j, (rndP w D P i j).tdiv 4⟩) (cs := [.int .i64 i, .int .i64 j, .int .i64 ((rndP w D P i j).tdiv 4)]) rfl ⟨hlim, hx.len⟩ (by omega) (by omega)
        simp (disch := omega) [f1, f5, f6, f7, a1, wrap_i64]
        refine ⟨by omega, a3 _ hx (Nat.le_refl _), ?_⟩
        simp only [whL, h0, if_false]
        rw [← List.append_assoc]; exact a2
      · simp (disch := omega) [f1, f5, f6, f7, wrap_i64]
        refine ⟨by omega, hx, ?_⟩
        simp only [whL, h0, if_true, List.append_nil]
        exact hv
    · have : i = w - 1 := by omega
      subst this
      simp (disch := omega) [f1, f5, f6, f7, wrap_i64]
      refine ⟨by omega, hx, ?_⟩
      simpa [whR] using hv
  · have : j = q - 1 := by omega
    subst this
    simp [f1, f5, f6, hv.lst.stor]
    exact hK _ _ hx hv
theorem law_FlowWhorls {ws : List V} {f : Fld} (hv : FldV H ws f) (hlim : lim ≤ H.length) (hK : ∀ H', K (.bool true) H') : VCall tbl lim 5 [.agg ws] H K := by
  cases hv with
  | mk hW hQ hd hp hD =>
    rename_i d p W Q D P
    refine VCall_fn tbl_at5 rfl ?_
    simp [vf5, hd.stor, hp.stor]
    refine fl_Long hd hp ?_
    simp only [Bool.decide_or]
    refine cond_bool (fun h => ?_) fun h => ?_
    · simp
      refine fl_known hlim fun H1 _ => ?_
      simp; exact hK _
    have h : ¬ (400 < D.length ∨ 200 < P.length) := by simpa using h
    simp [hd.stor, hp.stor]
    refine flow_Whorls hd hp hW hQ (by omega) hlim fun H1 lv x1 o1 => ?_
    replace x1 : HX H H1 := x1
    have l1 := x1.len
    simp [hd.stor, hp.stor, o1.lst.stor]
    refine ref_Whorls (hd.mono x1) (hp.mono x1) hW hQ (by omega) (by omega) fun H2 mv x2 o2 => ?_
    replace x2 : HX H1 H2 := x2
    have l2 := x2.len
    have o1 := o1.mono x2
    simp [o1.lst.stor, o2.lst.stor, o1.lst.len, o2.lst.len]
    refine wLoop_up (whP W Q D P).length (fun i fr L H' => ∃ X, (fr 1 = .lp 0 0 ∧ fr 3 = lv ∧ fr 5 = mv ∧ fr 7 = .int .i64 i) ∧ L = [.int .i64 W, .int .i64 Q, d, p] :: X ∧ HX H2 H') ⟨[], by simp, rfl, .refl⟩ ?_
    rintro i hi fr L H3 ⟨X, ⟨f1, f3, f5, f7⟩, rfl, x3⟩
    have l3 := x3.len
    simp [f1, f3, f5, f7, o1.lst.len]
    refine cond_dec (fun ht => ?_) fun hfl => ?_
    · have ht : i < (whP W Q D P).length := by omega
      have hval : validP W Q D P = 0 := by
        by_cases e : validP W Q D P = 0
        · exact e
        · simp [whP, e] at ht
      obtain ⟨w, q, rfl, rfl, hf⟩ := valid_pre hval
      have hw1 := hf.w1
      have hq1 := hf.q1
      have hfin : whP w q D P = whR w D P (q - 1) := by simp [whP, hval]
      have hok := whR_ok (w := w) (q := q) (D := D) (P := P) (by omega) (q - 1) (by omega) ((whR w D P (q - 1)).getD i default) (by rw [← hfin]; simp [List.getD_eq_getElem?_getD, ht])
      have hx3 := (x1.trans x2).trans x3
      have O1 := o1.lst.mono x3
      have O2 := o2.lst.mono x3
      rw [hfin] at O1 O2 ht
      generalize he : (whR w D P (q - 1)).getD i default = e at *
      have ld1 : ∀ L, vload (some 3) L H3 (ept 3 lv i) = some (.agg [.int .i64 e.x, .int .i64 e.y, .int .i64 e.u]) := fun L => by have := O1.load (L := L) ht; rw [he] at this; exact this
      have ld2 : ∀ {H4 : Hp} (x : HX H3 H4) L, vload (some 3) L H4 (ept 3 mv i) = some (.agg [.int .i64 e.x, .int .i64 e.y, .int .i64 e.u]) := fun x L => by have := (O2.mono x).load (L := L) ht; rw [he] at this; exact this
      have ad1 := O1.at ht
      have ad2 := O2.at ht
      simp (disch := omega) [f1, f3, f5, f7, lastO, lastS, hd.stor, hp.stor, ad1, ld1]
      refine flow_Index (hd.mono hx3) (hp.mono hx3) hW hQ (by omega) (by omega) fun H4 x4 => ?_
      replace x4 : HX H3 H4 := x4
      have l4 := x4.len
      have hix : indexP w q D P e.x e.y = (e.u, 0) := by simp [indexP, hval, hok.1, hok.2.2]
      have hu : ¬ e.u = 0 := by rw [hok.2.2]; exact fun h => hok.2.1 ((hf.tdz _ _).1 h)
      have p4 := hp.mono (hx3.trans x4)
      simp (disch := omega) [f1, f3, f5, f7, lastO, lastS, hd.stor, hp.stor, ad2, ld2 x4, hix, hu, veqA_3]
      refine wLoop_up P.length (fun k fr L H' => ∃ Z, (fr 1 = .lp 0 0 ∧ fr 3 = lv ∧ fr 5 = mv ∧ fr 7 = .int .i64 i ∧ fr 8 = .lp (X.length + 1) 0 ∧ fr 9 = .int .i64 e.u ∧ fr 11 = .bool (oddP P e.x e.y k) ∧ fr 12 = .int .i64 k) ∧ L = [.int .i64 w, .int .i64 q, d, p] :: Z ∧ Z[X.length]? = some [.int .i64 e.x, .int .i64 e.y, .int .i64 e.u] ∧ H' = H4) ⟨X ++ [[.int .i64 e.x, .int .i64 e.y, .int .i64 e.u]], by simp [f1, f3, f5, f7, oddP], rfl, by simp, rfl⟩ ?_
      rintro k hk fr L H' ⟨Z, ⟨f1, f3, f5, f7, f8, f9, f11, f12⟩, rfl, hZ, rfl⟩
      have zl : X.length < Z.length := (List.getElem?_eq_some_iff.1 hZ).1
      have lz : ∀ c : List V, (Z ++ [c])[X.length]? = some [.int .i64 e.x, .int .i64 e.y, .int .i64 e.u] := fun c => by rw [List.getElem?_append_left zl]; exact hZ
      simp [f1, f3, f5, f7, f8, f9, f11, f12, hp.len]
      have hs := hok.1
      simp only [isSB, decide_eq_true_eq] at hs
      refine cond_dec (fun ht2 => ?_) fun hfl2 => ?_
      · have ht2 : k < P.length := by omega
        by_cases c0 : (P.getD k default).u = 0
        · by_cases a0 : (P.getD k default).x = e.x
          · by_cases b0 : (P.getD k default).y = e.y
            · simp (disch := omega) [f1, f3, f5, f7, f8, f9, f11, f12, p4.addr, p4.load, lastO, lastS, lz, wrap_i64, oddP, lies, c0, a0, b0]
              exact ht2
            · by_cases b1 : (P.getD k default).y = e.y + 1
              · simp (disch := omega) [f1, f3, f5, f7, f8, f9, f11, f12, p4.addr, p4.load, lastO, lastS, lz, wrap_i64, oddP, lies, c0, a0, b0, b1]
                exact ht2
              · simp (disch := omega) [f1, f3, f5, f7, f8, f9, f11, f12, p4.addr, p4.load, lastO, lastS, lz, wrap_i64, oddP, lies, c0, a0, b0, b1]
                exact ht2
          · simp (disch := omega) [f1, f3, f5, f7, f8, f9, f11, f12, p4.addr, p4.load, lastO, lastS, lz, wrap_i64, oddP, lies, c0, a0]
            exact ht2
        · by_cases c1 : (P.getD k default).u = 1
          · by_cases b0 : (P.getD k default).y = e.y
            · by_cases a0 : (P.getD k default).x = e.x
              · simp (disch := omega) [f1, f3, f5, f7, f8, f9, f11, f12, p4.addr, p4.load, lastO, lastS, lz, wrap_i64, oddP, lies, c0, c1, a0, b0]
                exact ht2
              · by_cases a1 : (P.getD k default).x = e.x + 1
                · simp (disch := omega) [f1, f3, f5, f7, f8, f9, f11, f12, p4.addr, p4.load, lastO, lastS, lz, wrap_i64, oddP, lies, c0, c1, a0, a1, b0]
                  exact ht2
                · simp (disch := omega) [f1, f3, f5, f7, f8, f9, f11, f12, p4.addr, p4.load, lastO, lastS, lz, wrap_i64, oddP, lies, c0, c1, a0, a1, b0]
                  exact ht2
            · simp (disch := omega) [f1, f3, f5, f7, f8, f9, f11, f12, p4.addr, p4.load, lastO, lastS, lz, wrap_i64, oddP, lies, c0, c1, b0]
              exact ht2
          · simp (disch := omega) [f1, f3, f5, f7, f8, f9, f11, f12, p4.addr, p4.load, lastO, lastS, lz, wrap_i64, oddP, lies, c0, c1]
            exact ht2
      · have : k = P.length := by omega
        subst this
        have od := hf.odd e.x e.y
        rw [← hok.2.2] at od
        have ob : oddP P e.x e.y P.length = !decide (e.u.tmod 2 = 0) := by rw [Bool.eq_iff_iff]; simp [od]
        simp (disch := omega) [f1, f3, f5, f7, f8, f9, f11, f12, ob, wrap_i64]
        have hwl := whR_len (w := w) (by omega) (D := D) (P := P) (q - 1)
        rw [hfin]
        exact ⟨ht, wrap_i64 (by omega) (by omega), x3.trans x4⟩
    · simp [f1]
      refine fl_known (by omega) fun H4 _ => ?_
      simp; exact hK _
end
end Go.Proofs.Ytjchpgkibhdoiaa.Vm
