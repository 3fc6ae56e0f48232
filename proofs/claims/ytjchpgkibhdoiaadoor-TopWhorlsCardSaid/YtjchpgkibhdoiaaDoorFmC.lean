/- Whorls, steepness, turned and mirrored fields: FlowSpins, FlowGroup. -/
import Derived.Test.YtjchpgkibhdoiaaDoorFmA
import Derived.Test.YtjchpgkibhdoiaaDoorVmRec
import Derived.Test.YtjchpgkibhdoiaaDoorFmB
namespace Go.Proofs.YtjchpgkibhdoiaaDoor.Vm
open Go
set_option maxRecDepth 100000
set_option linter.unusedSimpArgs false
set_option linter.unusedVariables false
attribute [-simp] List.getD_eq_getElem?_getD

/-- four quarters are a number of half turns -/
theorem PreF.half {w q : Nat} {D : List Int} {P : List Ed} (h : PreF w q D P) (x y : Int) :
    (rndP w D P x y - 4 * (cntE P x y 0 P.length + cntE P (x + 1) y 1 P.length + cntE P x (y + 1) 0 P.length + cntE P x y 1 P.length)) % 8 = 0 := by
  have a1 : (y + 1) * (w : Int) = y * w + w := by rw [Int.add_mul, Int.one_mul]
  have e0 : dlt w D x y 0 = D.getD (y * w + x + 1).toNat 0 - D.getD (y * w + x).toNat 0 := by simp [dlt]
  have e1 : dlt w D (x + 1) y 1 = D.getD (y * w + x + 1 + w).toNat 0 - D.getD (y * w + x + 1).toNat 0 := by
    simp only [dlt, if_true, ← Int.add_assoc]
  have e2 : dlt w D x (y + 1) 0 = D.getD (y * w + x + 1 + w).toNat 0 - D.getD (y * w + x + w).toNat 0 := by
    simp only [dlt, a1, show ¬ (0 : Int) = 1 by omega, if_false]
    rw [show y * (w : Int) + w + x + 1 = y * w + x + 1 + w by omega, show y * (w : Int) + w + x = y * w + x + w by omega]
  have e3 : dlt w D x y 1 = D.getD (y * w + x + w).toNat 0 - D.getD (y * w + x).toNat 0 := by simp [dlt]
  simp only [rndP, tnP, nrm, e0, e1, e2, e3]
  omega

def whL (w : Nat) (D : List Int) (P : List Ed) (y : Nat) : Nat → List Ed
  | 0 => []
  | x + 1 => whL w D P y x ++ (if rndP w D P x y = 0 then [] else [⟨x, y, (rndP w D P x y).tdiv 4⟩])
def whR (w : Nat) (D : List Int) (P : List Ed) : Nat → List Ed
  | 0 => []
  | y + 1 => whR w D P y ++ whL w D P y (w - 1)
theorem whL_len {w : Nat} {D : List Int} {P : List Ed} {y : Nat} : ∀ x, (whL w D P y x).length ≤ x
  | 0 => by simp [whL]
  | x + 1 => by
    have := whL_len (w := w) (D := D) (P := P) (y := y) x
    simp only [whL, List.length_append]; split <;> simp <;> omega
theorem whR_len {w : Nat} (hw : w ≤ 12) {D : List Int} {P : List Ed} : ∀ y, (whR w D P y).length ≤ 12 * y
  | 0 => by simp [whR]
  | y + 1 => by
    have := whR_len hw (D := D) (P := P) y
    have := whL_len (w := w) (D := D) (P := P) (y := y) (w - 1)
    simp only [whR, List.length_append]; omega
def whOk (w q : Nat) (D : List Int) (P : List Ed) (l : List Ed) : Prop := ∀ e ∈ l, isSB w q e.x e.y = true ∧ rndP w D P e.x e.y ≠ 0 ∧ e.u = (rndP w D P e.x e.y).tdiv 4
theorem whOk.app {w q : Nat} {D : List Int} {P : List Ed} {l m : List Ed} (h : whOk w q D P l) (h2 : whOk w q D P m) : whOk w q D P (l ++ m) := by
  intro e he
  rcases List.mem_append.1 he with he | he
  · exact h e he
  · exact h2 e he
theorem whL_ok {w q : Nat} {D : List Int} {P : List Ed} {y : Nat} (hy : y + 1 < q) : ∀ x, x + 1 ≤ w → whOk w q D P (whL w D P y x)
  | 0, _ => by intro e he; simp [whL] at he
  | x + 1, hx => by
    refine (whL_ok hy x (by omega)).app ?_
    intro e he
    split at he
    · simp at he
    · rename_i h
      simp at he; subst he
      refine ⟨?_, h, rfl⟩
      simp [isSB]; omega
theorem whR_ok {w q : Nat} {D : List Int} {P : List Ed} (hw : 1 ≤ w) : ∀ y, y + 1 ≤ q → whOk w q D P (whR w D P y)
  | 0, _ => by intro e he; simp [whR] at he
  | y + 1, hy => (whR_ok hw y (by omega)).app (whL_ok (by omega) _ (by omega))
def whP (W Q : Int) (D : List Int) (P : List Ed) : List Ed := if validP W Q D P = 0 then whR W.toNat D P (Q.toNat - 1) else []

/-- a parting at a square -/
def lies (e : Ed) (x y : Int) : Bool := (decide (e.u = 0) && (decide (e.x = x) && (decide (e.y = y) || decide (e.y = y + 1)))) || (decide (e.u = 1) && (decide (e.y = y) && (decide (e.x = x) || decide (e.x = x + 1))))
def oddP (P : List Ed) (x y : Int) : Nat → Bool
  | 0 => false
  | k + 1 => oddP P x y k != lies (P.getD k default) x y
theorem odd_cnt {P : List Ed} {x y : Int} : ∀ k, (oddP P x y k = true ↔ (cntE P x y 0 k + cntE P (x + 1) y 1 k + cntE P x (y + 1) 0 k + cntE P x y 1 k) % 2 = 1)
  | 0 => by simp [oddP, cntE]
  | k + 1 => by
    have ih := odd_cnt (P := P) (x := x) (y := y) k
    generalize hs : cntE P x y 0 k + cntE P (x + 1) y 1 k + cntE P x (y + 1) 0 k + cntE P x y 1 k = S at *
    have hl : lies (P.getD k default) x y = true ↔ ((P.getD k default).u = 0 ∧ (P.getD k default).x = x ∧ ((P.getD k default).y = y ∨ (P.getD k default).y = y + 1)) ∨ ((P.getD k default).u = 1 ∧ (P.getD k default).y = y ∧ ((P.getD k default).x = x ∨ (P.getD k default).x = x + 1)) := by
      simp [lies]
    have e : cntE P x y 0 (k + 1) + cntE P (x + 1) y 1 (k + 1) + cntE P x (y + 1) 0 (k + 1) + cntE P x y 1 (k + 1) = S + if lies (P.getD k default) x y = true then 1 else 0 := by
      simp only [hl, cntE]
      generalize (P.getD k default).x = a
      generalize (P.getD k default).y = b
      generalize (P.getD k default).u = c
      by_cases c0 : c = 0
      · subst c0
        by_cases a0 : a = x
        · subst a0
          by_cases b0 : b = y
          · subst b0
            simp; omega
          · by_cases b1 : b = y + 1
            · subst b1
              simp; omega
            · simp [b0, b1]; omega
        · simp [a0]; omega
      · by_cases c1 : c = 1
        · subst c1
          by_cases b0 : b = y
          · subst b0
            by_cases a0 : a = x
            · subst a0; simp; omega
            · by_cases a1 : a = x + 1
              · subst a1; simp; omega
              · simp [a0, a1]; omega
          · simp [b0]; omega
        · simp [c0, c1]; omega
    rw [e]
    simp only [oddP]
    cases h1 : oddP P x y k <;> cases h2 : lies (P.getD k default) x y <;> simp [h1] at ih ⊢ <;> omega
theorem PreF.odd {w q : Nat} {D : List Int} {P : List Ed} (h : PreF w q D P) (x y : Int) : (oddP P x y P.length = true ↔ ¬ ((rndP w D P x y).tdiv 4).tmod 2 = 0) := by
  rw [odd_cnt]
  have := h.half x y
  generalize cntE P x y 0 P.length + cntE P (x + 1) y 1 P.length + cntE P x (y + 1) 0 P.length + cntE P x y 1 P.length = S at *
  obtain ⟨m, hm⟩ : ∃ m, rndP w D P x y = 4 * m := ⟨rndP w D P x y / 4, by omega⟩
  have e : (rndP w D P x y).tdiv 4 = m := by rw [hm, Int.mul_tdiv_cancel_left _ (by omega)]
  rw [e]
  have hp : m.tmod 2 = 0 ↔ m % 2 = 0 := by
    rw [← Int.dvd_iff_tmod_eq_zero, Int.dvd_iff_emod_eq_zero]
  rw [hp]
  omega
theorem PreF.tdz {w q : Nat} {D : List Int} {P : List Ed} (h : PreF w q D P) (x y : Int) : (rndP w D P x y).tdiv 4 = 0 ↔ rndP w D P x y = 0 := by
  have := h.half x y
  obtain ⟨m, hm⟩ : ∃ m, rndP w D P x y = 4 * m := ⟨rndP w D P x y / 4, by omega⟩
  rw [hm, Int.mul_tdiv_cancel_left _ (by omega)]
  omega
section
variable {lim : Nat} {H : Hp} {K : V → Hp → Prop} {v d p : V} {D : List Int} {P : List Ed} {W Q x y u : Int} {w q : Nat}
theorem flow_Whorls (hd : SlV H d D) (hp : EdV H p P) (hW : I64 W) (hQ : I64 Q) (hl : D.length ≤ 1000 ∧ P.length ≤ 1000) (hlim : lim ≤ H.length) (hK : ∀ H' v, HX H H' → OwnT H.length edC H' v (whP W Q D P) → K (.tup [v, .int .i64 (validP W Q D P)]) H') : VCall tbl lim 60 [.agg [.int .i64 W, .int .i64 Q, d, p]] H K := by
  refine VCall_fn tbl_at60 rfl ?_
  simp [vf60, hd.stor, hp.stor]
  refine flow_Validate hd hp hW hQ hl hlim fun H1 x1 => ?_
  replace x1 : HX H H1 := x1
  have l1 := x1.len
  simp
  refine cond_ndec (fun h => ?_) fun h => ?_
  · simp
    refine hK _ _ x1 ?_
    simp only [whP, h, if_false]
    exact .nil
  obtain ⟨w, q, rfl, rfl, hf⟩ := valid_pre h
  have hw1 := hf.w1
  have hq1 := hf.q1
  have hfin : whP w q D P = whR w D P (q - 1) := by simp [whP, h]
  rw [hfin, h] at hK
  simp (disch := omega) [wrap_i64]
  refine wLoop_up (q - 1) (fun j fr L H' => ∃ v, (fr 1 = .lp 0 0 ∧ fr 5 = v ∧ fr 16 = .int .i64 ((q : Int) - 1) ∧ fr 17 = .int .i64 j) ∧ L = [[.int .i64 w, .int .i64 q, d, p]] ∧ HX H H' ∧ OwnT H.length edC H' v (whR w D P j)) ⟨.snil, by simp, rfl, x1, .nil⟩ ?_
  rintro j hj fr L H' ⟨v, ⟨f1, f5, f16, f17⟩, rfl, hx, hv⟩
  simp [f1, f5, f16, f17]
  refine cond_dec (fun ht => ?_) fun hfl => ?_
  · have ht : j + 1 < q := by omega
    simp (disch := omega) [f1, f5, f16, f17, wrap_i64]
    refine wLoop_up (w - 1) (fun i fr L H' => ∃ v, (fr 1 = .lp 0 0 ∧ fr 5 = v ∧ fr 6 = .int .i64 j ∧ fr 16 = .int .i64 ((q : Int) - 1) ∧ fr 17 = .int .i64 j ∧ fr 22 = .int .i64 ((w : Int) - 1) ∧ fr 23 = .int .i64 i) ∧ L = [[.int .i64 w, .int .i64 q, d, p]] ∧ HX H H' ∧ OwnT H.length edC H' v (whR w D P j ++ whL w D P j i)) ⟨v, by simp [f1, f5, f16, f17], rfl, hx, by simpa [whL] using hv⟩ ?_
    clear f1 f5 f16 f17 hx hv
    rintro i hi fr L H' ⟨v, ⟨f1, f5, f6, f16, f17, f22, f23⟩, rfl, hx, hv⟩
    simp [f1, f5, f6, f16, f17, f22, f23]
    refine cond_dec (fun ht2 => ?_) fun hfl2 => ?_
    · have ht2 : i + 1 < w := by omega
      have hs : isSB w q i j = true := by simp [isSB]; omega
      simp [f1, f5, f6, f16, f17, f22, f23, hd.stor, hp.stor]
      refine flow_index (hd.mono hx) (hp.mono hx) hf hs ?_
      have hb := rnd_bd (w := w) (D := D) (P := P) (x := i) (y := j)
      have hxl := hx.len
      have z := hf.tdz i j
      simp
      refine cond_ndec (fun h0 => ?_) fun h0 => ?_
      · have h0 : rndP w D P i j ≠ 0 := fun e => h0 (z.2 e)
        have hll : (whR w D P j ++ whL w D P j i).length ≤ 1000 := by
          have := whR_len (w := w) (by omega) (D := D) (P := P) j
          have := whL_len (w := w) (D := D) (P := P) (y := j) i
          simp only [List.length_append]; omega
        obtain ⟨v', H3, a1, a2, a3, a4, a5, a6⟩ := hv.append (lim := lim) (bytes := 24) (x := ⟨i, j, (rndP w D P i j).tdiv 4⟩) (cs := [.int .i64 i, .int .i64 j, .int .i64 ((rndP w D P i j).tdiv 4)]) rfl ⟨hlim, hx.len⟩ (by omega) (by omega)
        simp (disch := omega) [f1, f5, f6, f16, f17, f22, f23, a1, wrap_i64]
        refine ⟨by omega, a3 _ hx (Nat.le_refl _), ?_⟩
        simp only [whL, h0, if_false]
        rw [← List.append_assoc]; exact a2
      · have h0 : rndP w D P i j = 0 := z.1 h0
        simp (disch := omega) [f1, f5, f6, f16, f17, f22, f23, wrap_i64]
        refine ⟨by omega, hx, ?_⟩
        simp only [whL, h0, if_true, List.append_nil]
        exact hv
    · have : i = w - 1 := by omega
      subst this
      simp (disch := omega) [f1, f5, f6, f16, f17, f22, f23, wrap_i64]
      refine ⟨by omega, hx, ?_⟩
      simpa [whR] using hv
  · have : j = q - 1 := by omega
    subst this
    simp [f1, f5, f16, f17, hv.lst.stor]
    exact hK _ _ hx hv
end
end Go.Proofs.YtjchpgkibhdoiaaDoor.Vm

namespace Go.Proofs.YtjchpgkibhdoiaaDoor.Vm
open Go
set_option maxRecDepth 100000
set_option linter.unusedSimpArgs false
set_option linter.unusedVariables false
attribute [-simp] List.getD_eq_getElem?_getD

def smax (w : Nat) (D : List Int) (P : List Ed) (l : List Ed) : Nat → Int
  | 0 => 0
  | i + 1 => max (max (smax w D P l i) (tnP w D P (l.getD i default).x (l.getD i default).y (l.getD i default).u)) (-(tnP w D P (l.getD i default).x (l.getD i default).y (l.getD i default).u))
theorem smax_bd {w : Nat} {D : List Int} {P : List Ed} {l : List Ed} : ∀ i, 0 ≤ smax w D P l i ∧ smax w D P l i ≤ 4
  | 0 => by simp [smax]
  | i + 1 => by
    have := smax_bd (w := w) (D := D) (P := P) (l := l) i
    have := tnP_bd (w := w) (D := D) (P := P) (x := (l.getD i default).x) (y := (l.getD i default).y) (u := (l.getD i default).u)
    simp only [smax]; omega
def steepP (W Q : Int) (D : List Int) (P : List Ed) : Int × Int := if validP W Q D P = 0 then (smax W.toNat D P (edL W.toNat Q.toNat W.toNat) (edL W.toNat Q.toNat W.toNat).length, 0) else (0, validP W Q D P)
/-- no edge of a valid field turns by a half -/
theorem sharp_no {w q : Nat} {D : List Int} {P : List Ed} (hf : PreF w q D P) (h : validP w q D P = 0) : ∀ i, i < (edL w q w).length → tnP w D P ((edL w q w).getD i default).x ((edL w q w).getD i default).y ((edL w q w).getD i default).u ≠ 4 := by
  have h0 : ¬ ((w : Int) < 1 ∨ 12 < (w : Int) ∨ (q : Int) < 1 ∨ 12 < (q : Int) ∨ (D.length : Int) ≠ (w : Int) * q) := by
    have := hf.w1; have := hf.q1; have := hf.dl; omega
  rw [validP_2 h0] at h
  simp only [Int.toNat_natCast] at h
  intro i hi e
  have hs := allN_not (f := shOk w D P (edL w q w)) hi (by simp [shOk, e])
  rw [if_pos hs] at h
  repeat' (split at h)
  all_goals omega
theorem smax_3 {w q : Nat} {D : List Int} {P : List Ed} (hf : PreF w q D P) (h : validP w q D P = 0) : ∀ i, i ≤ (edL w q w).length → smax w D P (edL w q w) i ≤ 3
  | 0, _ => by simp [smax]
  | i + 1, hi => by
    have a := smax_3 hf h i (by omega)
    have b := sharp_no hf h i (by omega)
    have := tnP_bd (w := w) (D := D) (P := P) (x := ((edL w q w).getD i default).x) (y := ((edL w q w).getD i default).y) (u := ((edL w q w).getD i default).u)
    simp only [smax]; omega
def spinL (D : List Int) (k : Int) : List Int := D.map fun d => (d + k.tmod 8) % 8
theorem spin_getD {D : List Int} {k : Int} {i : Nat} (h : i < D.length) : (spinL D k).getD i 0 = (D.getD i 0 + k.tmod 8) % 8 := by
  simp [spinL, List.getD_eq_getElem?_getD, h]
theorem spin_tn {w q : Nat} {D : List Int} {P : List Ed} (hf : PreF w q D P) {x y u k : Int} (he : isEB w q x y u = true) : tnP w (spinL D k) P x y u = tnP w D P x y u := by
  have hx := hf.idx he
  have hu := isEB_u he
  have e1 := spin_getD (D := D) (k := k) (i := (y * w + x).toNat) (by omega)
  have e2 : (spinL D k).getD (if u = 1 then y * w + x + w else y * w + x + 1).toNat 0 = (D.getD (if u = 1 then y * w + x + w else y * w + x + 1).toNat 0 + k.tmod 8) % 8 := by
    apply spin_getD
    have := hf.w1
    split <;> omega
  simp only [tnP, dlt, nrm, e1, e2]
  omega
theorem spin_valid {w q : Nat} {D : List Int} {P : List Ed} (hf : PreF w q D P) (h : validP w q D P = 0) {k : Int} : validP w q (spinL D k) P = 0 := by
  have h0 : ¬ ((w : Int) < 1 ∨ 12 < (w : Int) ∨ (q : Int) < 1 ∨ 12 < (q : Int) ∨ (D.length : Int) ≠ (w : Int) * q) := by
    have := hf.w1; have := hf.q1; have := hf.dl; omega
  have hl : (spinL D k).length = D.length := by simp [spinL]
  rw [validP_2 h0] at h
  rw [validP_2 (by rw [hl]; exact h0), hl]
  have d1 : allN (dOk (spinL D k)) D.length = true := by
    rw [allN_congr (g := fun _ => true) fun i hi => by simp only [dOk, spin_getD hi, decide_eq_true_eq]; omega]
    have : ∀ n, allN (fun _ => true) n = true := by
      intro n
      induction n with
      | zero => rfl
      | succ n ih => simp [allN, ih]
    exact this _
  simp only [Int.toNat_natCast] at h ⊢
  have e : allN (shOk w (spinL D k) P (edL w q w)) (edL w q w).length = allN (shOk w D P (edL w q w)) (edL w q w).length := by
    refine allN_congr fun i hi => ?_
    simp only [shOk]
    rw [spin_tn hf (edL_at hi)]
  simp only [e, d1, Bool.true_eq_false, if_false]
  by_cases g : allN (dOk D) D.length = true
  · simp only [g, Bool.true_eq_false, if_false] at h; exact h
  · simp [g] at h
theorem spin_smax {w q : Nat} {D : List Int} {P : List Ed} (hf : PreF w q D P) {k : Int} : ∀ i, i ≤ (edL w q w).length → smax w (spinL D k) P (edL w q w) i = smax w D P (edL w q w) i
  | 0, _ => rfl
  | i + 1, hi => by simp only [smax]; rw [spin_smax hf i (by omega), spin_tn hf (edL_at (by omega))]

section
variable {lim : Nat} {H : Hp} {K : V → Hp → Prop} {v d p : V} {D : List Int} {P : List Ed} {W Q x y u k : Int} {w q : Nat}
theorem vapp_e {y : V} {l : List Int} (hy : SlV H y l) (hlim : lim ≤ H.length) (hl : l.length ≤ 1000) : ∃ v' H', vappend lim 1 8 (H ++ [.row [] true]) (.sl H.length 0 0 1) y = some (v', H') ∧ OwnV H.length H' v' l ∧ HX H H' := by
  have hy2 := hy.mono (H' := H ++ [.row [] true]) HX.push
  refine ⟨.sl (H.length + 1) 0 l.length 1, (H ++ [Blk.row [] true]).set H.length .dead ++ [.row (ints l) true], ?_, .row (by omega) ?_, ?_⟩
  · simp [vappend, hy2.cells, hy2.len, hlim, show l.length * 8 ≤ 140737488355328 by omega, show l.length < 4611686018427387904 by omega]
  · have : H.length + 1 = ((H ++ [Blk.row [] true]).set H.length .dead).length := by simp
    rw [this]; exact List.getElem?_concat_length
  · refine HX.of (by simp <;> omega) fun i hi => ?_
    rw [List.getElem?_append_left (by simp; omega), List.getElem?_set_ne (by omega), List.getElem?_append_left hi]
theorem vapp_t {α : Type} {k : Nat} {c : Cod α k} {y : V} {l : List α} {bytes : Nat} (hy : LstV c H y l) (hlim : lim ≤ H.length) (hl : l.length ≤ 1000) (hb : bytes ≤ 1000) : ∃ v' H', vappend lim k bytes (H ++ [.row [] true]) (.sl H.length 0 0 k) y = some (v', H') ∧ OwnT H.length c H' v' l ∧ HX H H' := by
  have hy2 := hy.mono (H' := H ++ [.row [] true]) HX.push
  have hm : l.length * bytes ≤ 1000 * 1000 := Nat.mul_le_mul hl hb
  refine ⟨.sl (H.length + 1) 0 l.length k, (H ++ [Blk.row [] true]).set H.length .dead ++ [.row (c.all l) true], ?_, .row (by omega) ?_, ?_⟩
  · simp [vappend, hy2.cells, hy2.len, hlim, show l.length * bytes ≤ 140737488355328 by omega, show l.length < 4611686018427387904 by omega]
  · have : H.length + 1 = ((H ++ [Blk.row [] true]).set H.length .dead).length := by simp
    rw [this]; exact List.getElem?_concat_length
  · refine HX.of (by simp <;> omega) fun i hi => ?_
    rw [List.getElem?_append_left (by simp; omega), List.getElem?_set_ne (by omega), List.getElem?_append_left hi]
theorem clone_ints {l : List Int} (hv : SlV H v l) (hlim : lim ≤ H.length) (hl : l.length ≤ 1000) (hK : ∀ H' v', HX H H' → OwnV H.length H' v' l → K v' H') : VCall tbl lim 76 [v] H K := by
  refine VCall_fn tbl_at76 rfl ?_
  obtain ⟨v', H', a1, a2, a3⟩ := vapp_e (lim := lim) hv hlim hl
  cases hv with
  | nil =>
    simp [vf76]
    exact hK _ _ .refl .nil
  | empty =>
    simp [vf76, a1, a2.sl.stor]
    exact hK _ _ a3 a2
  | sl h1 h2 h3 =>
    simp [vf76, a1, a2.sl.stor]
    exact hK _ _ a3 a2
theorem clone_eds {l : List Ed} (hv : LstV edC H v l) (hlim : lim ≤ H.length) (hl : l.length ≤ 1000) (hK : ∀ H' v', HX H H' → OwnT H.length edC H' v' l → K v' H') : VCall tbl lim 77 [v] H K := by
  refine VCall_fn tbl_at77 rfl ?_
  obtain ⟨v', H', a1, a2, a3⟩ := vapp_t (lim := lim) (bytes := 24) hv hlim hl (by omega)
  cases hv with
  | nil =>
    simp [vf77]
    exact hK _ _ .refl .nil
  | empty =>
    simp [vf77, a1, a2.lst.stor]
    exact hK _ _ a3 a2
  | sl h1 h2 h3 =>
    simp [vf77, a1, a2.lst.stor]
    exact hK _ _ a3 a2
theorem flow_clone (hd : SlV H d D) (hp : EdV H p P) (hlim : lim ≤ H.length) (hl : D.length ≤ 1000 ∧ P.length ≤ 1000) (hK : ∀ H1 H' d' p', HX H H1 → HX H1 H' → OwnV H.length H1 d' D → OwnV H.length H' d' D → OwnT H1.length edC H' p' P → K (.agg [.int .i64 W, .int .i64 Q, d', p']) H') : VCall tbl lim 44 [.agg [.int .i64 W, .int .i64 Q, d, p]] H K := by
  refine VCall_fn tbl_at44 rfl ?_
  simp [vf44, hd.stor, hp.stor]
  refine clone_ints hd hlim hl.1 fun H1 d' x1 o1 => ?_
  replace x1 : HX H H1 := x1
  have l1 := x1.len
  simp [o1.sl.stor, o1.sl.one, hp.stor]
  refine clone_eds (hp.lst.mono x1) (by omega) hl.2 fun H2 p' x2 o2 => ?_
  simp [o1.sl.stor, o1.sl.one, o2.lst.stor, o2.lst.one]
  exact hK _ _ _ _ x1 x2 o1 (o1.mono x2) o2
theorem flow_checked (hd : SlV H d D) (hp : EdV H p P) (hW : I64 W) (hQ : I64 Q) (hl : D.length ≤ 1000 ∧ P.length ≤ 1000) (hlim : lim ≤ H.length) (hv : validP W Q D P = 0) (hK : ∀ H', HX H H' → K (.tup [.agg [.int .i64 W, .int .i64 Q, d, p], .int .i64 0]) H') : VCall tbl lim 46 [.agg [.int .i64 W, .int .i64 Q, d, p]] H K := by
  refine VCall_fn tbl_at46 rfl ?_
  simp [vf46, hd.stor, hp.stor]
  refine flow_Validate hd hp hW hQ hl hlim fun H1 x1 => ?_
  simp [hv, hd.stor, hp.stor]
  exact hK _ x1
theorem flow_Spin (hd : SlV H d D) (hp : EdV H p P) (hW : I64 W) (hQ : I64 Q) (hk : I64 k) (hl : D.length ≤ 1000 ∧ P.length ≤ 1000) (hlim : lim ≤ H.length)
    (hbad : validP W Q D P ≠ 0 → ∀ H', HX H H' → K (.tup [.agg [.int .i64 0, .int .i64 0, .snil, .snil], .int .i64 (validP W Q D P)]) H')
    (hK : validP W Q D P = 0 → ∀ H' d' p', HX H H' → SlV H' d' (spinL D k) → EdV H' p' P → K (.tup [.agg [.int .i64 W, .int .i64 Q, d', p'], .int .i64 0]) H') : VCall tbl lim 16 [.agg [.int .i64 W, .int .i64 Q, d, p], .int .i64 k] H K := by
  refine VCall_fn tbl_at16 rfl ?_
  simp [vf16, hd.stor, hp.stor]
  refine flow_Validate hd hp hW hQ hl hlim fun H1 x1 => ?_
  replace x1 : HX H H1 := x1
  have l1 := x1.len
  simp
  refine cond_ndec (fun h => ?_) fun h => ?_
  · simp
    exact hbad h _ x1
  obtain ⟨w, q, rfl, rfl, hf⟩ := valid_pre h
  simp [hd.stor, hp.stor]
  refine flow_clone (hd.mono x1) (hp.mono x1) (by omega) hl fun H2 H3 d1 p1 x2 x3 o0 o1 o2 => ?_
  replace x3 : HX H2 H3 := x3
  have l2 := x2.len
  have l3 := x3.len
  have hb := o0.below
  simp [o1.sl.stor, o2.lst.stor, o1.sl.len]
  refine wLoop_up D.length (fun i fr L H' => ∃ l : List Int, (fr 1 = .int .i64 k ∧ fr 4 = .lp 1 0 ∧ fr 7 = .lp 2 0 ∧ fr 19 = d1 ∧ fr 20 = .int .i64 D.length ∧ fr 21 = .int .i64 i) ∧ L = [[.int .i64 w, .int .i64 q, d, p], [.int .i64 0, .int .i64 0, .snil, .snil], [.int .i64 w, .int .i64 q, d1, p1]] ∧ HX H1 H' ∧ OwnV H1.length H' d1 l ∧ OwnT H2.length edC H' p1 P ∧ l.length = D.length ∧
      ∀ j, j < D.length → l.getD j 0 = if j < i then (D.getD j 0 + k.tmod 8) % 8 else D.getD j 0) ⟨D, by simp [o1.sl.len], by simp, x2.trans x3, o1, o2, rfl, fun j hj => by simp⟩ ?_
  rintro i hi fr L H' ⟨l, ⟨f1, f4, f7, f19, f20, f21⟩, rfl, hx, ho, ht2, hll, hg⟩
  have hxl := hx.len
  simp [f1, f4, f7, f19, f20, f21]
  refine cond_dec (fun ht => ?_) fun hfl => ?_
  · have ht : i < D.length := by omega
    have gi := hg i ht
    rw [if_neg (by omega)] at gi
    have dd := hf.dd i
    have tk : -8 < k.tmod 8 ∧ k.tmod 8 < 8 := by
      have := Int.tmod_lt_of_pos k (b := 8) (by omega)
      have := Int.lt_tmod_of_pos k (b := 8) (by omega)
      omega
    simp (disch := omega) [f1, f4, f7, f19, f20, f21, ho.sl.addr, ho.sl.load, gi, wrap_i64]
    refine flow_eighth (by omega) ?_
    have hst := fun L => ho.store (lim := lim) (i := i) (x := (D.getD i 0 + k.tmod 8) % 8) (L := L) ⟨by omega, by omega⟩
    simp (disch := omega) [f1, f4, f7, f19, f20, f21, ho.sl.addr, hst, wrap_i64, -vstore]
    refine ⟨by omega, setH_X hx ho (Nat.le_refl _), _, ho.put (by simp), ht2.keep fun b hb2 => setH_oth ho hb (Or.inr hb2), by simp [hll], fun j hj => ?_⟩
    rw [getD_set (by omega)]
    by_cases e : j = i
    · subst e; simp
    · rw [if_neg e, hg j hj]
      by_cases h2 : j < i
      · rw [if_pos h2, if_pos (by omega)]
      · rw [if_neg h2, if_neg (by omega)]
  · have : i = D.length := by omega
    subst this
    have hle : l = spinL D k := by
      refine ext_getD (by simp [spinL, hll]) fun j hj => ?_
      rw [hg j (by omega), if_pos (by omega), spin_getD (by omega)]
    subst hle
    have hsl := ho.sl
    have hpl : EdV H' p1 P := ⟨ht2.lst, hp.all⟩
    simp [f4, f7, hsl.stor, hpl.stor]
    refine flow_checked hsl hpl hW hQ (by rw [hll]; exact hl) (by omega) (spin_valid hf h) fun H4 x4 => ?_
    replace x4 : HX H' H4 := x4
    simp [f4, hsl.stor, hpl.stor]
    exact hK h _ _ _ ((x1.trans hx).trans x4) (hsl.mono x4) (hpl.mono x4)
end
end Go.Proofs.YtjchpgkibhdoiaaDoor.Vm

namespace Go.Proofs.YtjchpgkibhdoiaaDoor.Vm
open Go
set_option maxRecDepth 100000
set_option linter.unusedSimpArgs false
set_option linter.unusedVariables false
attribute [-simp] List.getD_eq_getElem?_getD

/-! rows, one after another -/
def catR (f : Nat → List Int) : Nat → List Int
  | 0 => []
  | n + 1 => catR f n ++ f n
theorem catR_len {f : Nat → List Int} {k : Nat} (hf : ∀ i, (f i).length = k) : ∀ n, (catR f n).length = n * k
  | 0 => by simp [catR]
  | n + 1 => by simp only [catR, List.length_append, catR_len hf n, hf]; rw [Nat.add_mul]; omega
theorem catR_congr {f g : Nat → List Int} : ∀ {n}, (∀ i, i < n → f i = g i) → catR f n = catR g n
  | 0, _ => rfl
  | n + 1, h => by simp only [catR]; rw [catR_congr fun i hi => h i (by omega), h n (by omega)]
theorem catR_row {f : Nat → List Int} {k : Nat} : ∀ {n} (hf : ∀ i, i < n → (f i).length = k) {i}, i < n → ((catR f n).drop (i * k)).take k = f i ∧ (catR f n).length = n * k
  | 0, _, i, hi => by omega
  | n + 1, hf, i, hi => by
    have hl : (catR f n).length = n * k := by
      match n with
      | 0 => simp [catR]
      | n + 1 => exact (catR_row (n := n + 1) (fun i hi => hf i (by omega)) (i := 0) (by omega)).2
    refine ⟨?_, by simp only [catR, List.length_append, hl, hf n (by omega)]; rw [Nat.add_mul]; omega⟩
    simp only [catR]
    by_cases e : i = n
    · subst e
      rw [List.drop_append, List.drop_of_length_le (by omega), List.nil_append, hl, Nat.sub_self, List.drop_zero, List.take_of_length_le (by rw [hf i (by omega)]; omega)]
    · have := (catR_row (n := n) (fun i hi => hf i (by omega)) (i := i) (by omega)).1
      have hm : (i + 1) * k ≤ n * k := Nat.mul_le_mul_right _ (by omega)
      rw [Nat.add_mul, Nat.one_mul] at hm
      rw [List.drop_append_of_le_length (by omega), List.take_append_of_le_length (by simp; omega), this]
theorem catR_all {D : List Int} {k : Nat} : ∀ n, n * k ≤ D.length → catR (fun y => (D.drop (y * k)).take k) n = D.take (n * k)
  | 0, _ => by simp [catR]
  | n + 1, h => by
    rw [Nat.add_mul, Nat.one_mul] at h ⊢
    simp only [catR]
    rw [catR_all n (by omega), List.take_add]

def shEd (d : Int) (c : Int) (e : Ed) : Ed := ⟨e.x + d, e.y + c, e.u⟩
/-- side by side -/
def besD (w1 w2 : Nat) (D1 D2 : List Int) (y : Nat) : List Int := (D1.drop (y * w1)).take w1 ++ (D2.drop (y * w2)).take w2
/-- a part: its partings -/
def cropP (w q : Int) (x y : Int) (P : List Ed) : Nat → List Ed
  | 0 => []
  | i + 1 => cropP w q x y P i ++ (if isEB w q ((P.getD i default).x - x) ((P.getD i default).y - y) (P.getD i default).u = true then [⟨(P.getD i default).x - x, (P.getD i default).y - y, (P.getD i default).u⟩] else [])
theorem cropP_len {w q x y : Int} {P : List Ed} : ∀ i, (cropP w q x y P i).length ≤ i
  | 0 => by simp [cropP]
  | i + 1 => by
    have := cropP_len (w := w) (q := q) (x := x) (y := y) (P := P) i
    simp only [cropP, List.length_append]; split <;> simp <;> omega
theorem cropP_all {w q x y : Int} {P : List Ed} (h : ∀ i, i < P.length → isEB w q ((P.getD i default).x - x) ((P.getD i default).y - y) (P.getD i default).u = true) : ∀ i, i ≤ P.length → cropP w q x y P i = (P.take i).map (shEd (-x) (-y))
  | 0, _ => by simp [cropP]
  | i + 1, hi => by
    have e : P.take (i + 1) = P.take i ++ [P.getD i default] := by
      rw [List.take_add_one, List.getElem?_eq_getElem (by omega)]; simp [List.getD_eq_getElem?_getD, show i < P.length by omega]
    simp only [cropP, h i (by omega), if_true]
    rw [cropP_all h i (by omega), e, List.map_append]
    simp [shEd, Int.sub_eq_add_neg]
theorem cropP_none {w q x y : Int} {P : List Ed} (h : ∀ i, i < P.length → isEB w q ((P.getD i default).x - x) ((P.getD i default).y - y) (P.getD i default).u = false) : ∀ i, i ≤ P.length → cropP w q x y P i = []
  | 0, _ => by simp [cropP]
  | i + 1, hi => by simp only [cropP, h i (by omega)]; rw [cropP_none h i (by omega)]; simp
theorem cropP_app {w q x y : Int} {P R : List Ed} : ∀ j, j ≤ R.length → cropP w q x y (P ++ R) (P.length + j) = cropP w q x y P P.length ++ cropP w q x y R j
  | 0, _ => by
    rw [Nat.add_zero]
    have : ∀ i, i ≤ P.length → cropP w q x y (P ++ R) i = cropP w q x y P i := by
      intro i
      induction i with
      | zero => intro _; rfl
      | succ i ih =>
        intro hi
        have e : (P ++ R).getD i default = P.getD i default := by simp only [List.getD_eq_getElem?_getD]; rw [List.getElem?_append_left (by omega)]
        simp only [cropP, e]; rw [ih (by omega)]
    rw [this _ (Nat.le_refl _)]; simp [cropP]
  | j + 1, hj => by
    have e : (P ++ R).getD (P.length + j) default = R.getD j default := by simp only [List.getD_eq_getElem?_getD]; rw [List.getElem?_append_right (by omega)]; congr 2; omega
    rw [← Nat.add_assoc]
    simp only [cropP, e]
    rw [cropP_app j (by omega), List.append_assoc]
theorem shEd_0 {l : List Ed} : l.map (shEd (-0) (-0)) = l := by
  have : shEd (-0) (-0) = id := by funext e; cases e; simp [shEd]
  rw [this]; simp
end Go.Proofs.YtjchpgkibhdoiaaDoor.Vm

namespace Go.Proofs.YtjchpgkibhdoiaaDoor.Vm
open Go
set_option maxRecDepth 100000
set_option linter.unusedSimpArgs false
set_option linter.unusedVariables false
attribute [-simp] List.getD_eq_getElem?_getD

section
variable {lim : Nat} {H : Hp} {K : V → Hp → Prop} {v d p d' p' : V} {D D' : List Int} {P P' : List Ed} {W Q x y u k : Int} {w q : Nat}
theorem vapp_sl {n bytes : Nat} {v y v' : V} {H' : Hp} (h : vappend lim n bytes H v y = some (v', H')) : v' = .snil ∨ ∃ l, v' = .sl H.length 0 l n := by
  unfold vappend at h
  repeat' (split at h)
  all_goals (first | (cases h; done) | (cases h; exact Or.inl rfl) | (cases h; exact Or.inr ⟨_, rfl⟩))
theorem vapp_own {n : Nat} {H : Hp} {v y : V} {a l : List Int} (h : OwnV n H v a) (hy : SlV H y l) (hlim : lim ≤ n) (hn : n ≤ H.length) (hl : a.length < 1000000 ∧ l.length < 1000000) :
    ∃ v' H', vappend lim 1 8 H v y = some (v', H') ∧ OwnV n H' v' (a ++ l) ∧ (∀ H0, HX H0 H → H0.length ≤ n → HX H0 H') ∧ n ≤ H'.length := by
  cases h with
  | nil =>
    obtain ⟨v', H', e, o, x⟩ := vappend_nil (lim := lim) hy hn hl.2
    exact ⟨v', H', e, by simpa using o, fun H0 h0 _ => h0.trans x, by have := x.len; omega⟩
  | row h1 h3 =>
    rename_i b
    have hb := (List.getElem?_eq_some_iff.1 h3).1
    refine ⟨.sl H.length 0 (a ++ l).length 1, H.set b .dead ++ [.row (ints (a ++ l)) true], ?_, .row hn ?_, fun H0 hx hk => ?_, by simp; omega⟩
    · simp only [vappend, hy.cells, hy.len]
      simp [h3, show lim ≤ b by omega, show (a.length + l.length) * 8 ≤ 140737488355328 by omega, show a.length + l.length < 4611686018427387904 by omega]
      simp [ints]
    · have : H.length = (H.set b .dead).length := by simp
      rw [this]; exact List.getElem?_concat_length
    · obtain ⟨X, rfl⟩ := hx
      refine HX.of (by simp; omega) fun i hi => ?_
      rw [List.getElem?_append_left (by simp; omega), List.getElem?_set_ne (by omega), List.getElem?_append_left hi]
theorem vbounds_nat {len a b : Nat} {kk : IntKind} (h : a ≤ b ∧ b ≤ len) : vbounds len (some (.int kk (a : Int))) (some (.int kk (b : Int))) = some (a, b) := by
  have h1 : (a : Int) ≤ b := by omega
  have h2 : (b : Int) ≤ len := by omega
  simp [vbounds, vint, h1, h2]
/-- a row of a field's directions -/
theorem row_sub {w1 i : Nat} (hd : SlV H d D) (hi : (i + 1) * w1 ≤ D.length) (hw : 1 ≤ w1) : vslS 1 d (some (.int .i64 ((i : Int) * w1))) (some (.int .i64 (((i : Int) + 1) * w1))) = some (subV d (i * w1) ((i + 1) * w1)) ∧
    SlV H (subV d (i * w1) ((i + 1) * w1)) ((D.drop (i * w1)).take w1) := by
  have e1 : (i : Int) * w1 = ((i * w1 : Nat) : Int) := by simp
  have e2 : ((i : Int) + 1) * w1 = (((i + 1) * w1 : Nat) : Int) := by simp
  have e3 : (i + 1) * w1 - i * w1 = w1 := by rw [Nat.add_mul, Nat.one_mul]; omega
  have hab : i * w1 ≤ (i + 1) * w1 := Nat.mul_le_mul_right _ (by omega)
  have hm : 1 ≤ (i + 1) * w1 := Nat.le_trans hw (Nat.le_mul_of_pos_left _ (by omega))
  refine ⟨?_, ?_⟩
  · rw [e1, e2]
    exact hd.subW ⟨hab, hi⟩ (by omega) (vbounds_nat ⟨hab, hi⟩)
  · have := hd.sub (a := i * w1) (b := (i + 1) * w1) ⟨hab, hi⟩
    rwa [e3] at this

theorem OwnV.keepB {n : Nat} {H H' : Hp} {v : V} {l : List Int} (h : OwnV n H v l) (hk : ∀ b o k z, v = .sl b o k z → H'[b]? = H[b]?) : OwnV n H' v l := by
  cases h with
  | nil => exact .nil
  | row h1 h2 => exact .row h1 (by rw [hk _ _ _ _ rfl]; exact h2)
theorem OwnV.ge {n : Nat} {H : Hp} {v : V} {l : List Int} (h : OwnV n H v l) : ∀ b o k z, v = .sl b o k z → n ≤ b := by
  cases h with
  | nil => intro b o k z e; cases e
  | row h1 h2 => intro b o k z e; cases e; exact h1
theorem OwnT.lt {α : Type} {k : Nat} {c : Cod α k} {n : Nat} {H : Hp} {v : V} {l : List α} (h : OwnT n c H v l) : ∀ b o k z, v = .sl b o k z → b < H.length := by
  cases h with
  | nil => intro b o k z e; cases e
  | row h1 h2 => intro b o k z e; cases e; exact (List.getElem?_eq_some_iff.1 h2).1
def besE (W1 Q1 : Int) (D1 : List Int) (P1 : List Ed) (W2 Q2 : Int) (D2 : List Int) (P2 : List Ed) : Int :=
  if validP W1 Q1 D1 P1 ≠ 0 then validP W1 Q1 D1 P1 else if validP W2 Q2 D2 P2 ≠ 0 then validP W2 Q2 D2 P2 else if Q1 ≠ Q2 then 8 else if 12 < W1 + W2 then 4
  else validP (W1 + W2) Q1 (catR (besD W1.toNat W2.toNat D1 D2) Q1.toNat) (P1 ++ P2.map (shEd W1 0))
theorem flow_checkedE (hd : SlV H d D) (hp : EdV H p P) (hW : I64 W) (hQ : I64 Q) (hl : D.length ≤ 1000 ∧ P.length ≤ 1000) (hlim : lim ≤ H.length)
    (hbad : validP W Q D P ≠ 0 → ∀ H', HX H H' → K (.tup [.agg [.int .i64 0, .int .i64 0, .snil, .snil], .int .i64 (validP W Q D P)]) H')
    (hK : validP W Q D P = 0 → ∀ H', HX H H' → K (.tup [.agg [.int .i64 W, .int .i64 Q, d, p], .int .i64 0]) H') : VCall tbl lim 46 [.agg [.int .i64 W, .int .i64 Q, d, p]] H K := by
  refine VCall_fn tbl_at46 rfl ?_
  simp [vf46, hd.stor, hp.stor]
  refine flow_Validate hd hp hW hQ hl hlim fun H1 x1 => ?_
  simp
  refine cond_ndec (fun h => ?_) fun h => ?_
  · simp; exact hbad h _ x1
  · simp [h, hd.stor, hp.stor]; exact hK h _ x1
theorem vapp_nilT {α : Type} {k : Nat} {c : Cod α k} {y : V} {l : List α} {bytes n : Nat} (hy : LstV c H y l) (hn : n ≤ H.length) (hl : l.length ≤ 1000) (hb : bytes ≤ 1000) : ∃ v' H', vappend lim k bytes H .snil y = some (v', H') ∧ OwnT n c H' v' l ∧ HX H H' := by
  have hm : l.length * bytes ≤ 1000 * 1000 := Nat.mul_le_mul hl hb
  by_cases h0 : l = []
  · subst h0
    exact ⟨.snil, H, by simp [vappend, hy.cells, hy.len], .nil, .refl⟩
  · have hp : 0 < l.length := List.length_pos_iff.2 h0
    refine ⟨.sl H.length 0 l.length k, H ++ [.row (c.all l) true], ?_, .row hn List.getElem?_concat_length, .push⟩
    simp [vappend, hy.cells, hy.len, h0, show l.length * bytes ≤ 140737488355328 by omega, show l.length < 4611686018427387904 by omega]
end
end Go.Proofs.YtjchpgkibhdoiaaDoor.Vm

namespace Go.Proofs.YtjchpgkibhdoiaaDoor.Vm
open Go
set_option maxRecDepth 100000
set_option linter.unusedSimpArgs false
set_option linter.unusedVariables false
attribute [-simp] List.getD_eq_getElem?_getD
/-- the sum of the first n -/
def su (f : Nat → Int) : Nat → Int
  | 0 => 0
  | n + 1 => su f n + f n
theorem su_congr {f g : Nat → Int} : ∀ {n : Nat}, (∀ i, i < n → f i = g i) → su f n = su g n
  | 0, _ => rfl
  | n + 1, h => by simp only [su, su_congr (n := n) fun i hi => h i (by omega), h n (by omega)]
theorem su_le {f g : Nat → Int} : ∀ {n : Nat}, (∀ i, i < n → f i ≤ g i) → su f n ≤ su g n
  | 0, _ => Int.le_refl _
  | n + 1, h => by
    have := su_le (n := n) fun i hi => h i (by omega)
    have := h n (by omega)
    simp only [su]; omega
theorem su_zero {f : Nat → Int} : ∀ {n : Nat}, (∀ i, i < n → f i = 0) → su f n = 0
  | 0, _ => rfl
  | n + 1, h => by simp only [su, su_zero (n := n) fun i hi => h i (by omega), h n (by omega)]; rfl
theorem su_nn {f : Nat → Int} {n : Nat} (h : ∀ i, i < n → 0 ≤ f i) : 0 ≤ su f n := by
  have := su_le (f := fun _ => 0) (g := f) h
  rw [su_zero fun _ _ => rfl] at this; exact this
theorem su_add {f g : Nat → Int} : ∀ {n : Nat}, su (fun i => f i + g i) n = su f n + su g n
  | 0 => rfl
  | n + 1 => by simp only [su, su_add (n := n)]; omega
theorem su_swap {h : Nat → Nat → Int} {m : Nat} : ∀ {n : Nat}, su (fun w => su (fun l => h w l) m) n = su (fun l => su (fun w => h w l) n) m
  | 0 => (su_zero fun _ _ => rfl).symm
  | n + 1 => by
    simp only [su, su_swap (n := n)]
    rw [← su_add]
/-- one changes -/
theorem su_upd {f : Nat → Int} {k : Nat} {x : Int} : ∀ {n : Nat}, su (fun i => if i = k then x else f i) n = su f n + if k < n then x - f k else 0
  | 0 => by simp [su]
  | n + 1 => by
    have ih := su_upd (f := f) (k := k) (x := x) (n := n)
    simp only [su, ih]
    by_cases e : n = k
    · subst e; rw [if_pos rfl, if_neg (by omega), if_pos (by omega)]; omega
    · rw [if_neg e]
      by_cases e2 : k < n
      · rw [if_pos e2, if_pos (by omega)]; omega
      · rw [if_neg e2, if_neg (by omega)]; omega
theorem su_one {f : Nat → Int} : ∀ {n k : Nat}, (∀ i, i < n → 0 ≤ f i) → k < n → f k ≤ su f n
  | n + 1, k, h, hk => by
    have nn := su_nn (f := f) (n := n) fun i hi => h i (by omega)
    have := h n (by omega)
    simp only [su]
    by_cases e : k = n
    · subst e; omega
    · have := su_one (n := n) (k := k) (fun i hi => h i (by omega)) (by omega)
      omega
end Go.Proofs.YtjchpgkibhdoiaaDoor.Vm

namespace Go.Proofs.YtjchpgkibhdoiaaDoor.Vm
open Go
set_option maxRecDepth 100000
set_option linter.unusedSimpArgs false
set_option linter.unusedVariables false
attribute [-simp] List.getD_eq_getElem?_getD
theorem and7 {n : Int} : vbin .and (.int .i64 n) (.int .i64 7) = some (.int .i64 (n % 8)) := by
  rw [vbin_and]
  have h : ((BitVec.ofInt IntKind.i64.bits n &&& BitVec.ofInt IntKind.i64.bits 7).toNat : Int) = n % 8 := by
    show ((BitVec.ofInt 64 n &&& BitVec.ofInt 64 7).toNat : Int) = n % 8
    rw [BitVec.toNat_and, BitVec.toNat_ofInt]
    have : (BitVec.ofInt 64 7).toNat = 2 ^ 3 - 1 := by decide
    rw [this, Nat.and_two_pow_sub_one_eq_mod]
    omega
  rw [h, wrap_i64 (by omega) (by omega)]
section
variable {lim : Nat} {H : Hp} {K : V → Hp → Prop} {n : Int}
end
end Go.Proofs.YtjchpgkibhdoiaaDoor.Vm

namespace Go.Proofs.YtjchpgkibhdoiaaDoor.Vm
open Go
set_option maxRecDepth 100000
set_option maxHeartbeats 1000000
set_option linter.unusedSimpArgs false
set_option linter.unusedVariables false
attribute [-simp] List.getD_eq_getElem?_getD
theorem spin_mod {d k : Int} : (d + k % 8) % 8 = (d + k.tmod 8) % 8 := by
  have h := Int.mul_tdiv_add_tmod k 8
  generalize k.tmod 8 = r at *
  generalize k.tdiv 8 = t at *
  omega
section
variable {lim : Nat} {H : Hp} {K : V → Hp → Prop} {v d p d' p' : V} {D D' : List Int} {P P' : List Ed} {W Q x y u k : Int} {w q : Nat}
end
end Go.Proofs.YtjchpgkibhdoiaaDoor.Vm

namespace Go.Proofs.YtjchpgkibhdoiaaDoor.Vm
open Go
set_option maxRecDepth 100000
set_option linter.unusedSimpArgs false
set_option linter.unusedVariables false
attribute [-simp] List.getD_eq_getElem?_getD
/-- the direction at a place -/
def atP (w : Nat) (D : List Int) (a : Pl) : Int := D.getD (a.y * w + a.x).toNat 0
/-- directions that are moved: what stands at a place comes from another one -/
def movD (w' q' : Nat) (inv : Pl → Pl) (t : Int → Int) (w : Nat) (D : List Int) : List Int := (List.range (q' * w')).map fun k => t (atP w D (inv ⟨(k % w' : Nat), (k / w' : Nat)⟩))
theorem movD_len {w' q' w : Nat} {inv : Pl → Pl} {t : Int → Int} {D : List Int} : (movD w' q' inv t w D).length = q' * w' := by simp [movD]
theorem movD_get {w' q' w : Nat} {inv : Pl → Pl} {t : Int → Int} {D : List Int} {k : Nat} (h : k < q' * w') : (movD w' q' inv t w D).getD k 0 = t (atP w D (inv ⟨(k % w' : Nat), (k / w' : Nat)⟩)) := by
  simp [movD, List.getD_eq_getElem?_getD, h]
theorem idx_lt {w q x y : Nat} (hx : x < w) (hy : y < q) : y * w + x < q * w := by
  have : (y + 1) * w ≤ q * w := Nat.mul_le_mul_right _ (by omega)
  rw [Nat.add_mul, Nat.one_mul] at this; omega
theorem idx_dm {w x y : Nat} (hx : x < w) : (y * w + x) % w = x ∧ (y * w + x) / w = y := by
  refine ⟨?_, ?_⟩
  · rw [Nat.add_comm, Nat.add_mul_mod_self_right, Nat.mod_eq_of_lt hx]
  · rw [Nat.add_comm, Nat.add_mul_div_right _ _ (by omega), Nat.div_eq_of_lt hx, Nat.zero_add]
theorem movD_at {w' q' w : Nat} {inv : Pl → Pl} {t : Int → Int} {D : List Int} {a : Pl} (h : inPl w' q' a = true) : atP w' (movD w' q' inv t w D) a = t (atP w D (inv a)) := by
  simp only [inPl, decide_eq_true_eq] at h
  obtain ⟨x, y⟩ := a
  simp only at h
  obtain ⟨x, rfl⟩ := Int.eq_ofNat_of_zero_le h.1
  obtain ⟨y, rfl⟩ := Int.eq_ofNat_of_zero_le h.2.2.1
  have hx : x < w' := by omega
  have hy : y < q' := by omega
  have e : ((y : Int) * w' + x).toNat = y * w' + x := by
    have : ((y : Int) * w' + x) = ((y * w' + x : Nat) : Int) := by simp
    omega
  unfold atP
  simp only [e]
  rw [movD_get (idx_lt hx hy), (idx_dm hx).1, (idx_dm hx).2]; rfl
theorem atP_lt {w q : Nat} {a : Pl} (h : inPl w q a = true) : (a.y * (w : Int) + a.x).toNat < q * w := by
  simp only [inPl, decide_eq_true_eq] at h
  obtain ⟨x, y⟩ := a
  simp only at h
  obtain ⟨x, rfl⟩ := Int.eq_ofNat_of_zero_le h.1
  obtain ⟨y, rfl⟩ := Int.eq_ofNat_of_zero_le h.2.2.1
  have := idx_lt (w := w) (q := q) (x := x) (y := y) (by omega) (by omega)
  have e : ((y : Int) * w + x) = ((y * w + x : Nat) : Int) := by simp
  show ((y : Int) * w + x).toNat < _
  rw [e, Int.toNat_natCast]; exact this
theorem at_dm {w q k : Nat} (hw : 0 < w) (h : k < q * w) : inPl w q ⟨(k % w : Nat), (k / w : Nat)⟩ = true ∧ (((k / w : Nat) : Int) * w + (k % w : Nat)).toNat = k := by
  have h1 := Nat.mod_lt k hw
  have h2 : k / w < q := Nat.div_lt_of_lt_mul (by rw [Nat.mul_comm]; exact h)
  refine ⟨by
    simp only [inPl, decide_eq_true_eq]
    generalize k / w = a at *
    generalize k % w = b at *
    omega, ?_⟩
  have e : (((k / w : Nat) : Int) * w + (k % w : Nat)) = ((k / w * w + k % w : Nat) : Int) := by rw [Int.natCast_add, Int.natCast_mul]
  rw [e, Int.toNat_natCast, Nat.mul_comm, Nat.div_add_mod]
theorem dlt_at {w : Nat} {D : List Int} {x y u : Int} (hu : u = 0 ∨ u = 1) : dlt w D x y u = atP w D (endE ⟨x, y, u⟩) - atP w D ⟨x, y⟩ := by
  rcases hu with rfl | rfl
  · simp only [dlt, endE, atP, show ¬ (0 : Int) = 1 by omega, if_false, Int.add_assoc]
  · have e : y * (w : Int) + x + w = (y + 1) * w + x := by rw [Int.add_mul, Int.one_mul]; omega
    simp only [dlt, endE, atP, if_true, e]
theorem cnt_mem {P : List Ed} (hP : P.Pairwise bef) {x y u : Int} : cntE P x y u P.length = if ⟨x, y, u⟩ ∈ P then 1 else 0 := by
  have key : ∀ i, i ≤ P.length → cntE P x y u i = if (∃ j, j < i ∧ P.getD j default = ⟨x, y, u⟩) then 1 else 0 := by
    intro i
    induction i with
    | zero => intro _; simp [cntE]
    | succ i ih =>
      intro hi
      have ih := ih (by omega)
      simp only [cntE, ih]
      have hb : ∀ j, j < i → bef (P.getD j default) (P.getD i default) := fun j hj => by
        have := List.pairwise_iff_getElem.1 hP j i (by omega) (by omega) hj
        simp only [List.getD_eq_getElem?_getD, List.getElem?_eq_getElem (show j < P.length by omega), List.getElem?_eq_getElem (show i < P.length by omega), Option.getD_some]
        exact this
      have he : ((P.getD i default).x = x ∧ (P.getD i default).y = y ∧ (P.getD i default).u = u) ↔ P.getD i default = ⟨x, y, u⟩ := by
        generalize P.getD i default = a
        cases a
        simp
      by_cases h1 : P.getD i default = ⟨x, y, u⟩
      · rw [if_pos (he.2 h1), if_neg, if_pos ⟨i, by omega, h1⟩]; · rfl
        rintro ⟨j, hj, e⟩
        have := hb j hj
        rw [e, h1] at this
        exact bef_irr this
      · rw [if_neg (mt he.1 h1), Int.add_zero]
        by_cases h2 : ∃ j, j < i ∧ P.getD j default = ⟨x, y, u⟩
        · rw [if_pos h2, if_pos (by obtain ⟨j, hj, e⟩ := h2; exact ⟨j, by omega, e⟩)]
        · rw [if_neg h2, if_neg]
          rintro ⟨j, hj, e⟩
          by_cases hji : j = i
          · subst hji; exact h1 e
          · exact h2 ⟨j, by omega, e⟩
  rw [key _ (Nat.le_refl _)]
  have : (∃ j, j < P.length ∧ P.getD j default = ⟨x, y, u⟩) ↔ ⟨x, y, u⟩ ∈ P := by
    rw [List.mem_iff_getElem]
    constructor
    · rintro ⟨j, hj, e⟩
      refine ⟨j, hj, ?_⟩
      rw [List.getD_eq_getElem?_getD, List.getElem?_eq_getElem hj] at e; exact e
    · rintro ⟨j, hj, e⟩
      refine ⟨j, hj, ?_⟩
      rw [List.getD_eq_getElem?_getD, List.getElem?_eq_getElem hj]; exact e
  by_cases h : (⟨x, y, u⟩ : Ed) ∈ P
  · rw [if_pos h, if_pos (this.2 h)]
  · rw [if_neg h, if_neg (mt this.1 h)]
theorem PreF.asc {w q : Nat} {D : List Int} {P : List Ed} (h : PreF w q D P) : P.Pairwise bef := by
  refine List.pairwise_iff_getElem.2 fun i j hi hj hij => ?_
  have := h.sorted hij hj
  simp only [List.getD_eq_getElem?_getD, List.getElem?_eq_getElem hi, List.getElem?_eq_getElem hj, Option.getD_some] at this
  exact this
theorem PreF.edg {w q : Nat} {D : List Int} {P : List Ed} (h : PreF w q D P) : ∀ e ∈ P, isEB w q e.x e.y e.u = true := by
  intro e he
  obtain ⟨i, hi, rfl⟩ := List.mem_iff_getElem.1 he
  have := h.po i hi
  simp only [pOk, Bool.and_eq_true, List.getD_eq_getElem?_getD, List.getElem?_eq_getElem hi, Option.getD_some] at this
  exact this.1
theorem putN_len {f : Ed → Ed} {P : List Ed} : ∀ n, (putN f P n).length = n
  | 0 => rfl
  | n + 1 => by
    have h : ∀ {l : List Ed} {e : Ed}, (putL l e).length = l.length + 1 := by
      intro l e
      induction l with
      | nil => rfl
      | cons a l ih => unfold putL; split <;> simp [ih]
    simp only [putN, h, putN_len n]
theorem putN_mem {f : Ed → Ed} (hf : ∀ a b, f a = f b → a = b) {P : List Ed} (hP : P.Pairwise bef) {x : Ed} : x ∈ putN f P P.length ↔ ∃ e ∈ P, x = f e := by
  rw [(putN_spec hf hP (Nat.le_refl _)).2]
  constructor
  · rintro ⟨i, hi, e⟩
    refine ⟨P[i], List.getElem_mem hi, ?_⟩
    rw [e, List.getD_eq_getElem?_getD, List.getElem?_eq_getElem hi]; rfl
  · rintro ⟨e, he, rfl⟩
    obtain ⟨i, hi, rfl⟩ := List.mem_iff_getElem.1 he
    exact ⟨i, hi, by rw [List.getD_eq_getElem?_getD, List.getElem?_eq_getElem hi]; rfl⟩
theorem edL_mem {w q : Nat} {x y u : Int} (h : isEB w q x y u = true) : (⟨x, y, u⟩ : Ed) ∈ edL w q w := by
  have h0 := h
  simp only [isEB, decide_eq_true_eq] at h0
  obtain ⟨x, rfl⟩ := Int.eq_ofNat_of_zero_le (show 0 ≤ x by omega)
  obtain ⟨y, rfl⟩ := Int.eq_ofNat_of_zero_le (show 0 ≤ y by omega)
  have hx : x < w := by omega
  have hy : y < q := by omega
  have a1 : (⟨x, y, u⟩ : Ed) ∈ upL w q x y 2 := by
    rcases (show u = 0 ∨ u = 1 by omega) with rfl | rfl
    · simp [upL, h]
    · simp [upL, h]
  have a2 : ∀ n, y < n → (⟨x, y, u⟩ : Ed) ∈ rowL w q x n := by
    intro n hn
    induction n with
    | zero => omega
    | succ n ih =>
      simp only [rowL, List.mem_append]
      by_cases e : y = n
      · subst e; exact Or.inr a1
      · exact Or.inl (ih (by omega))
  have a3 : ∀ n, x < n → (⟨x, y, u⟩ : Ed) ∈ edL w q n := by
    intro n hn
    induction n with
    | zero => omega
    | succ n ih =>
      simp only [edL, List.mem_append]
      by_cases e : x = n
      · subst e; exact Or.inr (a2 q hy)
      · exact Or.inl (ih (by omega))
  exact a3 w hx
theorem valid_tn {w q : Nat} {D : List Int} {P : List Ed} (hf : PreF w q D P) (h : validP w q D P = 0) {x y u : Int} (he : isEB w q x y u = true) : tnP w D P x y u ≠ 4 := by
  obtain ⟨i, hi, e⟩ := List.mem_iff_getElem.1 (edL_mem he)
  have := sharp_no hf h i hi
  rw [List.getD_eq_getElem?_getD, List.getElem?_eq_getElem hi] at this
  simp only [e, Option.getD_some] at this
  exact this
theorem valid_of {w q : Nat} {D : List Int} {P : List Ed} (hf : PreF w q D P) (h : ∀ e : Ed, isEB w q e.x e.y e.u = true → tnP w D P e.x e.y e.u ≠ 4) : validP w q D P = 0 := by
  have h0 : ¬ ((w : Int) < 1 ∨ 12 < (w : Int) ∨ (q : Int) < 1 ∨ 12 < (q : Int) ∨ (D.length : Int) ≠ (w : Int) * q) := by
    have := hf.w1; have := hf.q1; have := hf.dl; omega
  have tt : ∀ {f : Nat → Bool} {n : Nat}, (∀ i, i < n → f i = true) → allN f n = true := by
    intro f n
    induction n with
    | zero => intro _; rfl
    | succ n ih => intro h; simp only [allN, ih fun i hi => h i (by omega), h n (by omega), Bool.and_self]
  rw [validP_2 h0]
  have a1 : allN (dOk D) D.length = true := tt fun i _ => by simp only [dOk, decide_eq_true_eq]; exact hf.dd i
  have a2 : allN (pOk w q P) P.length = true := tt fun i hi => hf.po i hi
  have a3 : allN (shOk w D P (edL w q w)) (edL w q w).length = true := tt fun i hi => by
    have := h ((edL w q w).getD i default) (edL_ok w _ (by simp [List.getD_eq_getElem?_getD, hi]))
    simp [shOk, this]
  have a4 : ¬ 60 < P.length := by have := hf.pl; omega
  simp only [Int.toNat_natCast, a1, a2, a3, a4, Bool.true_eq_false, if_false]
/-- a way to move fields -/
structure Mov (w q w' q' : Nat) (f : Ed → Ed) (b : Ed → Ed) (inv : Pl → Pl) (t : Int → Int) : Prop where
  w1 : 1 ≤ w' ∧ w' ≤ 12
  q1 : 1 ≤ q' ∧ q' ≤ 12
  inj : ∀ a b, f a = f b → a = b
  bk : ∀ e, isEB w' q' e.x e.y e.u = true → isEB w q (b e).x (b e).y (b e).u = true ∧ f (b e) = e
  ok : ∀ e, isEB w q e.x e.y e.u = true → isEB w' q' (f e).x (f e).y (f e).u = true
  dd : ∀ d, 0 ≤ t d ∧ t d ≤ 7
  pl : ∀ a, inPl w' q' a = true → inPl w q (inv a) = true
theorem Mov.pre {w q w' q' : Nat} {f b : Ed → Ed} {inv : Pl → Pl} {t : Int → Int} {D : List Int} {P : List Ed} (m : Mov w q w' q' f b inv t) (hf : PreF w q D P) : PreF w' q' (movD w' q' inv t w D) (putN f P P.length) := by
  have hs := putN_spec m.inj hf.asc (Nat.le_refl _)
  refine ⟨m.w1, m.q1, ?_, fun i => ?_, by rw [putN_len]; exact hf.pl, fun i hi => ?_⟩
  · rw [movD_len, Nat.mul_comm]; simp
  · by_cases h : i < q' * w'
    · rw [movD_get h]; exact m.dd _
    · rw [getD_big (by rw [movD_len]; omega)]; omega
  · have hm : (putN f P P.length).getD i default ∈ putN f P P.length := by simp [List.getD_eq_getElem?_getD, hi]
    obtain ⟨e, he, e2⟩ := (putN_mem m.inj hf.asc).1 hm
    have := m.ok e (hf.edg e he)
    simp only [pOk, Bool.and_eq_true, Bool.or_eq_true, decide_eq_true_eq]
    refine ⟨by rw [e2]; exact this, ?_⟩
    by_cases h0 : i = 0
    · exact Or.inl h0
    · refine Or.inr ?_
      have := List.pairwise_iff_getElem.1 hs.1 (i - 1) i (by omega) hi (by omega)
      simp only [List.getD_eq_getElem?_getD, List.getElem?_eq_getElem hi, List.getElem?_eq_getElem (show i - 1 < (putN f P P.length).length by omega), Option.getD_some]
      exact this
theorem Mov.cnt {w q w' q' : Nat} {f b : Ed → Ed} {inv : Pl → Pl} {t : Int → Int} {D : List Int} {P : List Ed} (m : Mov w q w' q' f b inv t) (hf : PreF w q D P) (e : Ed) :
    cntE (putN f P P.length) (f e).x (f e).y (f e).u (putN f P P.length).length = cntE P e.x e.y e.u P.length := by
  rw [cnt_mem (putN_spec m.inj hf.asc (Nat.le_refl _)).1, cnt_mem hf.asc]
  have : (⟨(f e).x, (f e).y, (f e).u⟩ : Ed) ∈ putN f P P.length ↔ (⟨e.x, e.y, e.u⟩ : Ed) ∈ P := by
    rw [putN_mem m.inj hf.asc]
    constructor
    · rintro ⟨a, ha, e2⟩
      have : e = a := m.inj _ _ e2
      rw [this]; exact ha
    · intro h; exact ⟨e, h, rfl⟩
  by_cases h : (⟨e.x, e.y, e.u⟩ : Ed) ∈ P
  · rw [if_pos h, if_pos (this.2 h)]
  · rw [if_neg h, if_neg (mt this.1 h)]
theorem Mov.valid {w q w' q' : Nat} {f b : Ed → Ed} {inv : Pl → Pl} {t : Int → Int} {D : List Int} {P : List Ed} (m : Mov w q w' q' f b inv t) (hf : PreF w q D P) (hv : validP w q D P = 0)
    (ht : ∀ e, isEB w q e.x e.y e.u = true → tnP w' (movD w' q' inv t w D) (putN f P P.length) (f e).x (f e).y (f e).u = tnP w D P e.x e.y e.u ∨ tnP w' (movD w' q' inv t w D) (putN f P P.length) (f e).x (f e).y (f e).u = - tnP w D P e.x e.y e.u) :
    validP w' q' (movD w' q' inv t w D) (putN f P P.length) = 0 := by
  refine valid_of (m.pre hf) fun e he => ?_
  obtain ⟨h1, h2⟩ := m.bk e he
  have hn := valid_tn hf hv h1
  have hb := tnP_bd (w := w) (D := D) (P := P) (x := (b e).x) (y := (b e).y) (u := (b e).u)
  have := ht (b e) h1
  rw [h2] at this
  omega
theorem inPl_iff {W Q : Int} {a : Pl} : inPl W Q a = true ↔ 0 ≤ a.x ∧ a.x < W ∧ 0 ≤ a.y ∧ a.y < Q := by simp only [inPl, decide_eq_true_eq]
theorem isEB_iff {W Q x y u : Int} : isEB W Q x y u = true ↔ ((u = 0 ∧ 0 ≤ x ∧ x < W - 1 ∧ 0 ≤ y ∧ y < Q) ∨ (u = 1 ∧ 0 ≤ x ∧ x < W ∧ 0 ≤ y ∧ y < Q - 1)) := by simp only [isEB, decide_eq_true_eq]
theorem pl_ext {a b c d : Int} (h1 : a = c) (h2 : b = d) : (⟨a, b⟩ : Pl) = ⟨c, d⟩ := by rw [h1, h2]
theorem endE0 {x y : Int} : endE ⟨x, y, 0⟩ = ⟨x + 1, y⟩ := by simp [endE]
theorem endE1 {x y : Int} : endE ⟨x, y, 1⟩ = ⟨x, y + 1⟩ := by simp [endE]
theorem endE_c {e : Ed} : endE e = if e.u = 1 then ⟨e.x, e.y + 1⟩ else ⟨e.x + 1, e.y⟩ := rfl
def mirT (d : Int) : Int := (4 - d) % 8
def quaT (d : Int) : Int := (d + 2) % 8
def quaB (q : Int) (e : Ed) : Ed := ⟨e.y, q - 1 - (1 - e.u) - e.x, 1 - e.u⟩
def quaI (q : Int) (a : Pl) : Pl := ⟨a.y, q - 1 - a.x⟩
theorem mir_mov {w q : Nat} (hw : 1 ≤ w ∧ w ≤ 12) (hq : 1 ≤ q ∧ q ≤ 12) : Mov w q w q (mirE w) (mirE w) (mirM w) mirT := by
  refine ⟨hw, hq, fun a b => mirE_inj, fun e he => ⟨?_, mirE_two⟩, fun e he => ?_, fun d => by unfold mirT; omega, fun a ha => ?_⟩
  · rw [isEB_iff] at *; simp only [mirE]; omega
  · rw [isEB_iff] at *; simp only [mirE]; omega
  · rw [inPl_iff] at *; simp only [mirM]; omega
theorem qua_mov {w q : Nat} (hw : 1 ≤ w ∧ w ≤ 12) (hq : 1 ≤ q ∧ q ≤ 12) : Mov w q q w (quaE q) (quaB q) (quaI q) quaT := by
  refine ⟨hq, hw, fun a b => quaE_inj, fun e he => ⟨?_, ?_⟩, fun e he => ?_, fun d => by unfold quaT; omega, fun a ha => ?_⟩
  · rw [isEB_iff] at *; simp only [quaB]; omega
  · obtain ⟨x, y, u⟩ := e
    have e1 : (q : Int) - 1 - (1 - u) - (q - 1 - (1 - u) - x) = x := by omega
    have e2 : (1 : Int) - (1 - u) = u := by omega
    simp only [quaE, quaB, e1, e2]
  · rw [isEB_iff] at *; simp only [quaE]; omega
  · rw [inPl_iff] at *; simp only [quaI]; omega
theorem mir_tn {w q : Nat} {D : List Int} {P : List Ed} (hf : PreF w q D P) (hv : validP w q D P = 0) {e : Ed} (he : isEB w q e.x e.y e.u = true) :
    tnP w (movD w q (mirM w) mirT w D) (putN (mirE w) P P.length) (mirE w e).x (mirE w e).y (mirE w e).u = if e.u = 0 then tnP w D P e.x e.y e.u else - tnP w D P e.x e.y e.u := by
  have m := mir_mov hf.w1 hf.q1
  have hn := valid_tn hf hv he
  have hc := m.cnt hf e
  unfold tnP at hn ⊢
  have hu : e.u = 0 ∨ e.u = 1 := by rw [isEB_iff] at he; omega
  have hu2 : (mirE w e).u = 0 ∨ (mirE w e).u = 1 := hu
  rw [hc, dlt_at hu2]
  rw [dlt_at hu] at hn ⊢
  have h1 : inPl w q ⟨(mirE w e).x, (mirE w e).y⟩ = true := by rw [isEB_iff] at he; rw [inPl_iff]; simp only [mirE]; omega
  have h2 : inPl w q (endE ⟨(mirE w e).x, (mirE w e).y, (mirE w e).u⟩) = true := by
    rw [isEB_iff] at he; rw [inPl_iff]
    have hu : e.u = 0 ∨ e.u = 1 := by omega
    rcases hu with hu | hu
    · simp only [mirE, endE, hu, show ¬ (0 : Int) = 1 by omega, if_false]; omega
    · simp only [mirE, endE, hu, if_true]; omega
  rw [movD_at h1, movD_at h2]
  obtain ⟨x, y, u⟩ := e
  simp only at *
  rcases hu with rfl | rfl
  · have e1 : mirM w ⟨(mirE w ⟨x, y, 0⟩).x, (mirE w ⟨x, y, 0⟩).y⟩ = endE ⟨x, y, 0⟩ := by
      rw [endE0]; exact pl_ext (by show (w : Int) - 1 - (w - 2 + 0 - x) = x + 1; omega) rfl
    have e2 : mirM w (endE ⟨(mirE w ⟨x, y, 0⟩).x, (mirE w ⟨x, y, 0⟩).y, (mirE w ⟨x, y, 0⟩).u⟩) = ⟨x, y⟩ := by
      show mirM w (endE ⟨w - 2 + 0 - x, y, 0⟩) = _
      rw [endE0]; exact pl_ext (by show (w : Int) - 1 - (w - 2 + 0 - x + 1) = x; omega) rfl
    rw [e1, e2, if_pos rfl]
    unfold nrm mirT; omega
  · have e1 : mirM w ⟨(mirE w ⟨x, y, 1⟩).x, (mirE w ⟨x, y, 1⟩).y⟩ = ⟨x, y⟩ := by
      exact pl_ext (by show (w : Int) - 1 - (w - 2 + 1 - x) = x; omega) rfl
    have e2 : mirM w (endE ⟨(mirE w ⟨x, y, 1⟩).x, (mirE w ⟨x, y, 1⟩).y, (mirE w ⟨x, y, 1⟩).u⟩) = endE ⟨x, y, 1⟩ := by
      show mirM w (endE ⟨w - 2 + 1 - x, y, 1⟩) = _
      rw [endE1, endE1]; exact pl_ext (by show (w : Int) - 1 - (w - 2 + 1 - x) = x; omega) rfl
    rw [e1, e2, if_neg (by omega)]
    unfold nrm at *; unfold mirT; omega
theorem qua_tn {w q : Nat} {D : List Int} {P : List Ed} (hf : PreF w q D P) (hv : validP w q D P = 0) {e : Ed} (he : isEB w q e.x e.y e.u = true) :
    tnP q (movD q w (quaI q) quaT w D) (putN (quaE q) P P.length) (quaE q e).x (quaE q e).y (quaE q e).u = if e.u = 0 then tnP w D P e.x e.y e.u else - tnP w D P e.x e.y e.u := by
  have m := qua_mov hf.w1 hf.q1
  have hn := valid_tn hf hv he
  have hc := m.cnt hf e
  unfold tnP at hn ⊢
  have hu : e.u = 0 ∨ e.u = 1 := by rw [isEB_iff] at he; omega
  have hu2 : (quaE q e).u = 0 ∨ (quaE q e).u = 1 := by simp only [quaE]; omega
  rw [hc, dlt_at hu2]
  rw [dlt_at hu] at hn ⊢
  have h1 : inPl q w ⟨(quaE q e).x, (quaE q e).y⟩ = true := by rw [isEB_iff] at he; rw [inPl_iff]; simp only [quaE]; omega
  have h2 : inPl q w (endE ⟨(quaE q e).x, (quaE q e).y, (quaE q e).u⟩) = true := by
    rw [isEB_iff] at he; rw [inPl_iff]
    have hu : e.u = 0 ∨ e.u = 1 := by omega
    rcases hu with hu | hu
    · simp only [quaE, endE, hu, show (1 : Int) - 0 = 1 by omega, if_true]; omega
    · simp only [quaE, endE, hu, show (1 : Int) - 1 = 0 by omega, show ¬ (0 : Int) = 1 by omega, if_false]; omega
  rw [movD_at h1, movD_at h2]
  obtain ⟨x, y, u⟩ := e
  simp only at *
  rcases hu with rfl | rfl
  · have e1 : quaI q ⟨(quaE q ⟨x, y, 0⟩).x, (quaE q ⟨x, y, 0⟩).y⟩ = ⟨x, y⟩ := by
      exact pl_ext rfl (by show (q : Int) - 1 - (q - 1 - 0 - y) = y; omega)
    have e2 : quaI q (endE ⟨(quaE q ⟨x, y, 0⟩).x, (quaE q ⟨x, y, 0⟩).y, (quaE q ⟨x, y, 0⟩).u⟩) = endE ⟨x, y, 0⟩ := by
      show quaI q (endE ⟨q - 1 - 0 - y, x, 1 - 0⟩) = _
      rw [show (1 : Int) - 0 = 1 by omega, endE0, endE1]; exact pl_ext rfl (by show (q : Int) - 1 - (q - 1 - 0 - y) = y; omega)
    rw [e1, e2, if_pos rfl]
    unfold nrm quaT; omega
  · have e1 : quaI q ⟨(quaE q ⟨x, y, 1⟩).x, (quaE q ⟨x, y, 1⟩).y⟩ = endE ⟨x, y, 1⟩ := by
      rw [endE1]; exact pl_ext rfl (by show (q : Int) - 1 - (q - 1 - 1 - y) = y + 1; omega)
    have e2 : quaI q (endE ⟨(quaE q ⟨x, y, 1⟩).x, (quaE q ⟨x, y, 1⟩).y, (quaE q ⟨x, y, 1⟩).u⟩) = ⟨x, y⟩ := by
      show quaI q (endE ⟨q - 1 - 1 - y, x, 1 - 1⟩) = _
      rw [show (1 : Int) - 1 = 0 by omega, endE0]; exact pl_ext rfl (by show (q : Int) - 1 - (q - 1 - 1 - y + 1) = y; omega)
    rw [e1, e2, if_neg (by omega)]
    unfold nrm at *; unfold quaT; omega
theorem mir_valid {w q : Nat} {D : List Int} {P : List Ed} (hf : PreF w q D P) (hv : validP w q D P = 0) : validP w q (movD w q (mirM w) mirT w D) (putN (mirE w) P P.length) = 0 := by
  refine (mir_mov hf.w1 hf.q1).valid hf hv fun e he => ?_
  rw [mir_tn hf hv he]; split <;> simp
theorem qua_valid {w q : Nat} {D : List Int} {P : List Ed} (hf : PreF w q D P) (hv : validP w q D P = 0) : validP q w (movD q w (quaI q) quaT w D) (putN (quaE q) P P.length) = 0 := by
  refine (qua_mov hf.w1 hf.q1).valid hf hv fun e he => ?_
  rw [qua_tn hf hv he]; split <;> simp
/-- the sum of the indices -/
def totP (w q : Nat) (D : List Int) (P : List Ed) : Int := su (fun y => su (fun x => (rndP w D P x y).tdiv 4) (w - 1)) (q - 1)
theorem su_rev {f : Nat → Int} : ∀ {n : Nat}, su (fun i => f (n - 1 - i)) n = su f n
  | 0 => rfl
  | n + 1 => by
    have h : su (fun i => f (n + 1 - 1 - i)) (n + 1) = f n + su (fun i => f (n + 1 - 1 - (i + 1))) n := by
      clear su_rev
      have g : ∀ (h : Nat → Int) m, su h (m + 1) = h 0 + su (fun i => h (i + 1)) m := by
        intro h m
        induction m with
        | zero => simp [su]
        | succ m ih => rw [su, ih]; simp only [su]; omega
      rw [g]; simp
    rw [h]
    have e : su (fun i => f (n + 1 - 1 - (i + 1))) n = su (fun i => f (n - 1 - i)) n := su_congr fun i hi => by congr 1; omega
    rw [e, su_rev (f := f) (n := n)]
    simp only [su]; omega
theorem mir_rnd {w q : Nat} {D : List Int} {P : List Ed} (hf : PreF w q D P) (hv : validP w q D P = 0) {x y : Int} (hs : isSB w q x y = true) :
    rndP w (movD w q (mirM w) mirT w D) (putN (mirE w) P P.length) (w - 2 - x) y = rndP w D P x y := by
  obtain ⟨e0, e1, e2, e3⟩ := isSB_ed hs
  have t0 := mir_tn hf hv (e := ⟨x, y, 0⟩) e0
  have t1 := mir_tn hf hv (e := ⟨x + 1, y, 1⟩) e1
  have t2 := mir_tn hf hv (e := ⟨x, y + 1, 0⟩) e2
  have t3 := mir_tn hf hv (e := ⟨x, y, 1⟩) e3
  simp only [mirE, if_true, show ¬ (1 : Int) = 0 by omega, if_false, show (w : Int) - 2 + 0 - x = w - 2 - x by omega, show (w : Int) - 2 + 1 - (x + 1) = w - 2 - x by omega, show (w : Int) - 2 + 1 - x = w - 2 - x + 1 by omega] at t0 t1 t2 t3
  unfold rndP
  rw [t0, t1, t2, t3]; omega
theorem qua_rnd {w q : Nat} {D : List Int} {P : List Ed} (hf : PreF w q D P) (hv : validP w q D P = 0) {x y : Int} (hs : isSB w q x y = true) :
    rndP q (movD q w (quaI q) quaT w D) (putN (quaE q) P P.length) (q - 2 - y) x = rndP w D P x y := by
  obtain ⟨e0, e1, e2, e3⟩ := isSB_ed hs
  have t0 := qua_tn hf hv (e := ⟨x, y, 0⟩) e0
  have t1 := qua_tn hf hv (e := ⟨x + 1, y, 1⟩) e1
  have t2 := qua_tn hf hv (e := ⟨x, y + 1, 0⟩) e2
  have t3 := qua_tn hf hv (e := ⟨x, y, 1⟩) e3
  simp only [quaE, if_true, show ¬ (1 : Int) = 0 by omega, if_false, show (1 : Int) - 0 = 1 by omega, show (1 : Int) - 1 = 0 by omega, show (q : Int) - 1 - 0 - y = q - 2 - y + 1 by omega, show (q : Int) - 1 - 1 - y = q - 2 - y by omega, show (q : Int) - 1 - 0 - (y + 1) = q - 2 - y by omega] at t0 t1 t2 t3
  unfold rndP
  rw [t0, t1, t2, t3]; omega
theorem mir_tot {w q : Nat} {D : List Int} {P : List Ed} (hf : PreF w q D P) (hv : validP w q D P = 0) : totP w q (movD w q (mirM w) mirT w D) (putN (mirE w) P P.length) = totP w q D P := by
  unfold totP
  refine su_congr fun y hy => ?_
  rw [← su_rev]
  refine su_congr fun x hx => ?_
  have := mir_rnd hf hv (x := x) (y := y) (by simp [isSB]; omega)
  have e : ((w - 1 - 1 - x : Nat) : Int) = w - 2 - x := by omega
  rw [e, this]
theorem qua_tot {w q : Nat} {D : List Int} {P : List Ed} (hf : PreF w q D P) (hv : validP w q D P = 0) : totP q w (movD q w (quaI q) quaT w D) (putN (quaE q) P P.length) = totP w q D P := by
  unfold totP
  rw [su_swap]
  rw [← su_rev]
  refine su_congr fun y hy => su_congr fun x hx => ?_
  have := qua_rnd hf hv (x := x) (y := y) (by simp [isSB]; omega)
  have e : ((q - 1 - 1 - y : Nat) : Int) = q - 2 - y := by omega
  rw [e, this]
theorem spin_tot {w q : Nat} {D : List Int} {P : List Ed} (hf : PreF w q D P) {k : Int} : totP w q (spinL D k) P = totP w q D P := by
  unfold totP
  refine su_congr fun y hy => su_congr fun x hx => ?_
  obtain ⟨e0, e1, e2, e3⟩ := isSB_ed (w := w) (q := q) (x := x) (y := y) (by simp [isSB]; omega)
  unfold rndP
  rw [spin_tn hf e0, spin_tn hf e1, spin_tn hf e2, spin_tn hf e3]
theorem spin_back {w q : Nat} {D : List Int} {P : List Ed} (hf : PreF w q D P) {k : Int} : spinL (spinL D k) (-k) = D := by
  refine ext_getD (by simp [spinL]) fun i hi => ?_
  have hi : i < D.length := by simpa [spinL] using hi
  rw [spin_getD (by simpa [spinL] using hi), spin_getD hi]
  have := hf.dd i
  rw [Int.neg_tmod]; omega
theorem mir_two {w q : Nat} {D : List Int} {P : List Ed} (hf : PreF w q D P) : movD w q (mirM w) mirT w (movD w q (mirM w) mirT w D) = D ∧ putN (mirE w) (putN (mirE w) P P.length) (putN (mirE w) P P.length).length = P := by
  have m := mir_mov hf.w1 hf.q1
  have hdl : D.length = q * w := by
    have e : ((q * w : Nat) : Int) = (w : Int) * q := by rw [Nat.mul_comm]; simp
    have := hf.dl; omega
  refine ⟨ext_getD (by rw [movD_len]; omega) fun i hi => ?_, ed_uniq ?_ hf.asc fun e => ?_⟩
  · rw [movD_len] at hi
    obtain ⟨h1, h2⟩ := at_dm (q := q) (by have := hf.w1; omega) hi
    rw [movD_get hi, movD_at (m.pl _ h1)]
    have e : mirM w (mirM w ⟨(i % w : Nat), (i / w : Nat)⟩) = ⟨(i % w : Nat), (i / w : Nat)⟩ := pl_ext (by show (w : Int) - 1 - (w - 1 - ((i % w : Nat) : Int)) = ((i % w : Nat) : Int); generalize ((i % w : Nat) : Int) = b; omega) rfl
    rw [e]
    unfold atP
    simp only [h2]
    have := hf.dd i
    unfold mirT; omega
  · exact (putN_spec m.inj (m.pre hf).asc (Nat.le_refl _)).1
  · rw [putN_mem m.inj (m.pre hf).asc]
    constructor
    · rintro ⟨a, ha, rfl⟩
      obtain ⟨c, hc, rfl⟩ := (putN_mem m.inj hf.asc).1 ha
      rw [mirE_two]; exact hc
    · intro he
      exact ⟨mirE w e, (putN_mem m.inj hf.asc).2 ⟨e, he, rfl⟩, mirE_two.symm⟩
def quaD (w q : Nat) (D : List Int) : List Int := movD q w (quaI q) quaT w D
def quaN (q : Nat) (P : List Ed) : List Ed := putN (quaE q) P P.length
theorem qua_four {w q : Nat} {D : List Int} {P : List Ed} (hf : PreF w q D P) : quaD q w (quaD w q (quaD q w (quaD w q D))) = D ∧ quaN w (quaN q (quaN w (quaN q P))) = P := by
  have m := qua_mov hf.w1 hf.q1
  have m2 := qua_mov hf.q1 hf.w1
  have f1 : PreF q w (quaD w q D) (quaN q P) := m.pre hf
  have f2 : PreF w q (quaD q w (quaD w q D)) (quaN w (quaN q P)) := m2.pre f1
  have f3 : PreF q w (quaD w q (quaD q w (quaD w q D))) (quaN q (quaN w (quaN q P))) := m.pre f2
  have f4 : PreF w q (quaD q w (quaD w q (quaD q w (quaD w q D)))) (quaN w (quaN q (quaN w (quaN q P)))) := m2.pre f3
  have hdl : D.length = q * w := by
    have e : ((q * w : Nat) : Int) = (w : Int) * q := by rw [Nat.mul_comm]; simp
    have := hf.dl; omega
  have fl : (quaD q w (quaD w q (quaD q w (quaD w q D)))).length = q * w := movD_len
  refine ⟨ext_getD (by omega) fun i hi => ?_, ed_uniq f4.asc hf.asc fun e => ?_⟩
  · rw [fl] at hi
    obtain ⟨h1, h2⟩ := at_dm (q := q) (by have := hf.w1; omega) hi
    have g1 := m2.pl _ h1
    have g2 := m.pl _ g1
    have g3 := m2.pl _ g2
    have e4 : (quaD q w (quaD w q (quaD q w (quaD w q D)))).getD i 0 = quaT (atP q (quaD w q (quaD q w (quaD w q D))) (quaI w ⟨(i % w : Nat), (i / w : Nat)⟩)) := movD_get hi
    have e3 : atP q (quaD w q (quaD q w (quaD w q D))) (quaI w ⟨(i % w : Nat), (i / w : Nat)⟩) = quaT (atP w (quaD q w (quaD w q D)) (quaI q (quaI w ⟨(i % w : Nat), (i / w : Nat)⟩))) := movD_at g1
    have e2 : atP w (quaD q w (quaD w q D)) (quaI q (quaI w ⟨(i % w : Nat), (i / w : Nat)⟩)) = quaT (atP q (quaD w q D) (quaI w (quaI q (quaI w ⟨(i % w : Nat), (i / w : Nat)⟩)))) := movD_at g2
    have e1 : atP q (quaD w q D) (quaI w (quaI q (quaI w ⟨(i % w : Nat), (i / w : Nat)⟩))) = quaT (atP w D (quaI q (quaI w (quaI q (quaI w ⟨(i % w : Nat), (i / w : Nat)⟩))))) := movD_at g3
    rw [e4, e3, e2, e1]
    have e : quaI q (quaI w (quaI q (quaI w ⟨(i % w : Nat), (i / w : Nat)⟩))) = ⟨(i % w : Nat), (i / w : Nat)⟩ := by
      simp only [quaI]
      generalize ((i % w : Nat) : Int) = b
      generalize ((i / w : Nat) : Int) = c
      exact pl_ext (by omega) (by omega)
    rw [e]
    unfold atP
    simp only [h2]
    have := hf.dd i
    unfold quaT; omega
  · have p1 : ∀ x, x ∈ quaN q P ↔ ∃ e ∈ P, x = quaE q e := fun x => putN_mem m.inj hf.asc
    have p2 : ∀ x, x ∈ quaN w (quaN q P) ↔ ∃ e ∈ quaN q P, x = quaE w e := fun x => putN_mem m2.inj f1.asc
    have p3 : ∀ x, x ∈ quaN q (quaN w (quaN q P)) ↔ ∃ e ∈ quaN w (quaN q P), x = quaE q e := fun x => putN_mem m.inj f2.asc
    have p4 : ∀ x, x ∈ quaN w (quaN q (quaN w (quaN q P))) ↔ ∃ e ∈ quaN q (quaN w (quaN q P)), x = quaE w e := fun x => putN_mem m2.inj f3.asc
    rw [p4]
    constructor
    · rintro ⟨a, ha, rfl⟩
      obtain ⟨b, hb, rfl⟩ := (p3 a).1 ha
      obtain ⟨c, hc, rfl⟩ := (p2 b).1 hb
      obtain ⟨d, hd, rfl⟩ := (p1 c).1 hc
      rw [quaE_four]; exact hd
    · intro he
      exact ⟨_, (p3 _).2 ⟨_, (p2 _).2 ⟨_, (p1 _).2 ⟨e, he, rfl⟩, rfl⟩, rfl⟩, quaE_four.symm⟩
/-- the sum of the indices of whorls -/
def uSum (l : List Ed) (i : Nat) : Int := ((l.take i).map fun e => e.u).sum
theorem uSum_succ {l : List Ed} {i : Nat} (h : i < l.length) : uSum l (i + 1) = uSum l i + (l.getD i default).u := by
  unfold uSum
  rw [List.take_add_one, List.getElem?_eq_getElem h, List.getD_eq_getElem?_getD, List.getElem?_eq_getElem h]
  simp only [List.map_append, List.sum_append, Option.toList_some, List.map_cons, List.map_nil, List.sum_cons, List.sum_nil, Int.add_zero, Option.getD_some]
theorem uSum_bd {l : List Ed} (hb : ∀ e ∈ l, -100 ≤ e.u ∧ e.u ≤ 100) : ∀ {i : Nat}, i ≤ l.length → -100 * (i : Int) ≤ uSum l i ∧ uSum l i ≤ 100 * i
  | 0, _ => by simp [uSum]
  | i + 1, h => by
    have ih := uSum_bd hb (i := i) (by omega)
    have := hb (l.getD i default) (by simp [List.getD_eq_getElem?_getD, show i < l.length by omega])
    rw [uSum_succ (by omega)]; omega
theorem uSum_all {l : List Ed} : uSum l l.length = (l.map fun e => e.u).sum := by unfold uSum; rw [List.take_length]
theorem whL_sum {w : Nat} {D : List Int} {P : List Ed} {y : Nat} : ∀ n, ((whL w D P y n).map fun e => e.u).sum = su (fun x => (rndP w D P x y).tdiv 4) n
  | 0 => rfl
  | n + 1 => by
    simp only [whL, List.map_append, List.sum_append, whL_sum n, su]
    split
    · rename_i h; simp [h]
    · simp
theorem whR_sum {w : Nat} {D : List Int} {P : List Ed} : ∀ n, ((whR w D P n).map fun e => e.u).sum = su (fun y => su (fun x => (rndP w D P x y).tdiv 4) (w - 1)) n
  | 0 => rfl
  | n + 1 => by simp only [whR, List.map_append, List.sum_append, whR_sum n, whL_sum, su]
theorem whP_sum {w q : Nat} {D : List Int} {P : List Ed} (hv : validP w q D P = 0) : uSum (whP w q D P) (whP w q D P).length = totP w q D P := by
  rw [uSum_all]
  simp only [whP, hv, if_true, Int.toNat_natCast]
  exact whR_sum _
theorem whP_bd {w q : Nat} {D : List Int} {P : List Ed} (hf : PreF w q D P) (hv : validP w q D P = 0) : (whP w q D P).length ≤ 144 ∧ ∀ e ∈ whP w q D P, -100 ≤ e.u ∧ e.u ≤ 100 := by
  simp only [whP, hv, if_true, Int.toNat_natCast]
  have hw := hf.w1
  have hq := hf.q1
  refine ⟨by have := whR_len hw.2 (D := D) (P := P) (q - 1); omega, fun e he => ?_⟩
  obtain ⟨_, _, h3⟩ := whR_ok (w := w) (q := q) hw.1 (q - 1) (by omega) e he
  have hb := rnd_bd (w := w) (D := D) (P := P) (x := e.x) (y := e.y)
  rw [h3]
  generalize rndP w D P e.x e.y = r at *
  have := Int.mul_tdiv_add_tmod r 4
  have h1 := Int.tmod_lt_of_pos r (b := 4) (by omega)
  have h2 := Int.lt_tmod_of_pos r (b := 4) (by omega)
  omega
end Go.Proofs.YtjchpgkibhdoiaaDoor.Vm

namespace Go.Proofs.YtjchpgkibhdoiaaDoor.Vm
open Go
set_option maxRecDepth 100000
set_option maxHeartbeats 1000000
set_option linter.unusedSimpArgs false
set_option linter.unusedVariables false
attribute [-simp] List.getD_eq_getElem?_getD
/-- what of a moved field stands after i directions -/
def srcI (w w' : Nat) (inv : Pl → Pl) (k : Nat) : Nat := ((inv ⟨(k % w' : Nat), (k / w' : Nat)⟩).y * (w : Int) + (inv ⟨(k % w' : Nat), (k / w' : Nat)⟩).x).toNat
def dstI (w w' : Nat) (pm : Pl → Pl) (i : Nat) : Nat := ((pm ⟨(i % w : Nat), (i / w : Nat)⟩).y * (w' : Int) + (pm ⟨(i % w : Nat), (i / w : Nat)⟩).x).toNat
def mvL (w' q' w : Nat) (inv : Pl → Pl) (t : Int → Int) (D : List Int) (i : Nat) : List Int := (List.range (q' * w')).map fun k => if srcI w w' inv k < i then t (D.getD (srcI w w' inv k) 0) else 0
structure Mvp (w q w' q' : Nat) (f : Ed → Ed) (pm inv : Pl → Pl) : Prop where
  w1 : 1 ≤ w' ∧ w' ≤ 12
  q1 : 1 ≤ q' ∧ q' ≤ 12
  pi : ∀ a, inPl w q a = true → inPl w' q' (pm a) = true ∧ inv (pm a) = a
  ip : ∀ a, inPl w' q' a = true → inPl w q (inv a) = true ∧ pm (inv a) = a
  st : ∀ e : Ed, e.u = 0 ∨ e.u = 1 → ∃ s, stE (pm ⟨e.x, e.y⟩) (pm (endE e)) = some (f e, s)
theorem at_idx {w q : Nat} {a : Pl} (h : inPl w q a = true) : (⟨(((a.y * (w : Int) + a.x).toNat % w : Nat) : Int), (((a.y * (w : Int) + a.x).toNat / w : Nat) : Int)⟩ : Pl) = a := by
  simp only [inPl, decide_eq_true_eq] at h
  obtain ⟨x, y⟩ := a
  simp only at h
  obtain ⟨x, rfl⟩ := Int.eq_ofNat_of_zero_le h.1
  obtain ⟨y, rfl⟩ := Int.eq_ofNat_of_zero_le h.2.2.1
  have e : ((y : Int) * w + x) = ((y * w + x : Nat) : Int) := by simp
  show (⟨((((y : Int) * w + x).toNat % w : Nat) : Int), ((((y : Int) * w + x).toNat / w : Nat) : Int)⟩ : Pl) = _
  obtain ⟨h1, h2⟩ := idx_dm (w := w) (x := x) (y := y) (by omega)
  rw [e, Int.toNat_natCast, h1, h2]
theorem Mvp.dst {w q w' q' : Nat} {f : Ed → Ed} {pm inv : Pl → Pl} (m : Mvp w q w' q' f pm inv) (hw : 0 < w) {i : Nat} (hi : i < q * w) : dstI w w' pm i < q' * w' ∧ srcI w w' inv (dstI w w' pm i) = i ∧ ∀ k, k < q' * w' → srcI w w' inv k = i → k = dstI w w' pm i := by
  obtain ⟨a1, a2⟩ := at_dm (q := q) hw hi
  obtain ⟨b1, b2⟩ := m.pi _ a1
  refine ⟨atP_lt b1, ?_, fun k hk e => ?_⟩
  · unfold srcI dstI
    rw [at_idx b1, b2]; exact a2
  · obtain ⟨c1, c2⟩ := at_dm (w := w') (q := q') (by have := m.w1; omega) hk
    obtain ⟨d1, d2⟩ := m.ip _ c1
    unfold dstI
    rw [← e]
    unfold srcI
    rw [at_idx d1, d2]; exact c2.symm
theorem mvL_len {w' q' w : Nat} {inv : Pl → Pl} {t : Int → Int} {D : List Int} {i : Nat} : (mvL w' q' w inv t D i).length = q' * w' := by simp [mvL]
theorem mvL_get {w' q' w : Nat} {inv : Pl → Pl} {t : Int → Int} {D : List Int} {i k : Nat} (h : k < q' * w') : (mvL w' q' w inv t D i).getD k 0 = if srcI w w' inv k < i then t (D.getD (srcI w w' inv k) 0) else 0 := by
  simp [mvL, List.getD_eq_getElem?_getD, h]
theorem mvL_zero {w' q' w : Nat} {inv : Pl → Pl} {t : Int → Int} {D : List Int} : mvL w' q' w inv t D 0 = zs (q' * w') := by
  refine ext_getD (by simp [mvL_len]) fun k hk => ?_
  rw [mvL_get (by simpa [mvL_len] using hk), zs_getD]; rfl
theorem Mvp.step {w q w' q' : Nat} {f : Ed → Ed} {pm inv : Pl → Pl} (m : Mvp w q w' q' f pm inv) (hw : 0 < w) {t : Int → Int} {D : List Int} {i : Nat} (hi : i < q * w) :
    (mvL w' q' w inv t D i).set (dstI w w' pm i) (t (D.getD i 0)) = mvL w' q' w inv t D (i + 1) := by
  obtain ⟨h1, h2, h3⟩ := m.dst hw hi
  refine ext_getD (by simp [mvL_len]) fun k hk => ?_
  have hk : k < q' * w' := by simpa [mvL_len] using hk
  rw [getD_set (by rw [mvL_len]; exact h1), mvL_get hk, mvL_get hk]
  by_cases e : k = dstI w w' pm i
  · subst e; rw [if_pos rfl, h2, if_pos (by omega)]
  · rw [if_neg e]
    have : srcI w w' inv k ≠ i := fun e2 => e (h3 k hk e2)
    by_cases e3 : srcI w w' inv k < i
    · rw [if_pos e3, if_pos (by omega)]
    · rw [if_neg e3, if_neg (by omega)]
theorem Mvp.fin {w q w' q' : Nat} {f : Ed → Ed} {pm inv : Pl → Pl} (m : Mvp w q w' q' f pm inv) {t : Int → Int} {D : List Int} : mvL w' q' w inv t D (q * w) = movD w' q' inv t w D := by
  refine ext_getD (by simp [mvL_len, movD_len]) fun k hk => ?_
  have hk : k < q' * w' := by simpa [mvL_len] using hk
  rw [mvL_get hk, movD_get hk]
  obtain ⟨c1, c2⟩ := at_dm (w := w') (q := q') (by have := m.w1; omega) hk
  obtain ⟨d1, d2⟩ := m.ip _ c1
  rw [if_pos (show srcI w w' inv k < q * w from atP_lt d1)]; rfl
theorem mir_mvp {w q : Nat} (hw : 1 ≤ w ∧ w ≤ 12) (hq : 1 ≤ q ∧ q ≤ 12) : Mvp w q w q (mirE w) (mirM w) (mirM w) := by
  have tw : ∀ a, mirM w (mirM w a) = a := fun a => by
    obtain ⟨x, y⟩ := a
    exact pl_ext (by show (w : Int) - 1 - (w - 1 - x) = x; omega) rfl
  have i1 : ∀ a, inPl w q a = true → inPl w q (mirM w a) = true := fun a ha => by rw [inPl_iff] at *; simp only [mirM]; omega
  exact ⟨hw, hq, fun a ha => ⟨i1 a ha, tw a⟩, fun a ha => ⟨i1 a ha, tw a⟩, fun e hu => mir_step hu⟩
theorem qua_mvp {w q : Nat} (hw : 1 ≤ w ∧ w ≤ 12) (hq : 1 ≤ q ∧ q ≤ 12) : Mvp w q q w (quaE q) (quaM q) (quaI q) := by
  refine ⟨hq, hw, fun a ha => ⟨?_, ?_⟩, fun a ha => ⟨?_, ?_⟩, fun e hu => qua_step hu⟩
  · rw [inPl_iff] at *; simp only [quaM]; omega
  · obtain ⟨x, y⟩ := a
    exact pl_ext rfl (by show (q : Int) - 1 - (q - 1 - y) = y; omega)
  · rw [inPl_iff] at *; simp only [quaI]; omega
  · obtain ⟨x, y⟩ := a
    exact pl_ext (by show (q : Int) - 1 - (q - 1 - x) = x; omega) rfl
theorem rd2w {a b : V} : rd (some 2) [a, b] 0 = some (.agg [a, b]) := Eq.trans rfl rfl
theorem spl2w {a b x y : V} : splice [a, b] 0 [x, y] = [x, y] := by simp [splice]
theorem spl4w {a b c d x y z u : V} : splice [a, b, c, d] 0 [x, y, z, u] = [x, y, z, u] := by simp [splice]
section
variable {lim : Nat} {H : Hp} {K : V → Hp → Prop} {v d p : V} {D : List Int} {P : List Ed} {W Q A B : Int} {w q w' q' : Nat}
theorem flow_movedBad {M T : V} (hd : SlV H d D) (hp : EdV H p P) (hW : I64 W) (hQ : I64 Q) (hl : D.length ≤ 1000 ∧ P.length ≤ 1000) (hlim : lim ≤ H.length) (hv : validP W Q D P ≠ 0) (hM : Vm.stor M = true) (hT : Vm.stor T = true)
    (hK : ∀ H', HX H H' → K (.tup [.agg [.int .i64 0, .int .i64 0, .snil, .snil], .int .i64 (validP W Q D P)]) H') : VCall tbl lim 51 [.agg [.int .i64 W, .int .i64 Q, d, p], .int .i64 A, .int .i64 B, M, T] H K := by
  refine VCall_fn tbl_at51 rfl ?_
  simp [vf51, hd.stor, hp.stor]
  refine flow_Validate hd hp hW hQ hl hlim fun H1 x1 => ?_
  replace x1 : HX H H1 := x1
  simp
  refine cond_ndec (fun h => ?_) fun h => absurd h hv
  simp
  exact hK _ x1
/-- moved, for a valid field -/
theorem flow_moved {M T : V} {f : Ed → Ed} {pm inv : Pl → Pl} {t : Int → Int} {fm ft : FuncId} {cm ct : List V} (m : Mvp w q w' q' f pm inv) (hf : PreF w q D P) (hinj : ∀ a b, f a = f b → a = b)
    (hM : M = .func (.func fm) [] cm) (hT : T = .func (.func ft) [] ct) (hcm : allStor cm = true) (hct : allStor ct = true) (hg : HX glHp H)
    (hd : SlV H d D) (hp : EdV H p P) (hlim : lim ≤ H.length) (hv : validP w q D P = 0) (hv' : validP w' q' (movD w' q' inv t w D) (putN f P P.length) = 0) (hpre : PreF w' q' (movD w' q' inv t w D) (putN f P P.length))
    (hmove : ∀ (lim : Nat) (H' : Hp) (K : V → Hp → Prop) (a : Pl), HX H H' → 0 ≤ a.x ∧ a.x ≤ 12 → 0 ≤ a.y ∧ a.y ≤ 12 → K (.agg [.int .i64 (pm a).x, .int .i64 (pm a).y]) H' → VCall tbl lim fm (.agg [.int .i64 a.x, .int .i64 a.y] :: cm) H' K)
    (hturn : ∀ (lim : Nat) (H' : Hp) (K : V → Hp → Prop) (n : Int), HX H H' → 0 ≤ n ∧ n ≤ 7 → K (.int .i64 (t n)) H' → VCall tbl lim ft (.int .i64 n :: ct) H' K)
    (hK : ∀ H' d' p', HX H H' → SlV H' d' (movD w' q' inv t w D) → EdV H' p' (putN f P P.length) → K (.tup [.agg [.int .i64 w', .int .i64 q', d', p'], .int .i64 0]) H') : VCall tbl lim 51 [.agg [.int .i64 w, .int .i64 q, d, p], .int .i64 w', .int .i64 q', M, T] H K := by
  refine VCall_fn tbl_at51 rfl ?_
  have hw1 := hf.w1
  have hq1 := hf.q1
  have hw2 := m.w1
  have hq2 := m.q1
  have dl : D.length = q * w := by
    have e : ((q * w : Nat) : Int) = (w : Int) * q := by rw [Nat.mul_comm]; simp
    have := hf.dl; omega
  have bq : ((q : Int) * w) ≤ 144 := (mul_bd (a := (q : Int)) (b := (w : Int)) (A := 12) (B := 12) (by omega) (by omega)).2
  have hlen : D.length ≤ 1000 ∧ P.length ≤ 1000 := by
    have e : ((q * w : Nat) : Int) = (q : Int) * w := by simp
    have := hf.pl; omega
  have mm := mul_bd (a := (w' : Int)) (b := (q' : Int)) (A := 12) (B := 12) (by omega) (by omega)
  have mn : ((w' : Int) * q').toNat = q' * w' := by
    have e : ((q' * w' : Nat) : Int) = (w' : Int) * q' := by rw [Nat.mul_comm]; simp
    omega
  have wm : IntKind.i64.wrap ((w' : Int) * q') = w' * q' := wrap_i64 (by omega) (by omega)
  have mk : ∀ (L : Lo) (H : Hp), vmks 1 8 [.int .i64 0] L H (.int .i64 ((w' : Int) * q')) (.int .i64 ((w' : Int) * q')) = some (.val (.sl H.length 0 (q' * w') 1) L (H ++ [.row (ints (zs (q' * w'))) true])) := fun L H => by
    have e : ((w' : Int) * q') = ((q' * w' : Nat) : Int) := by rw [Nat.mul_comm]; simp
    rw [e]
    exact vmks_int (by omega)
  have sM : Vm.stor M = true := by rw [hM]; rfl
  have sT : Vm.stor T = true := by rw [hT]; rfl
  simp [vf51, hd.stor, hp.stor]
  refine flow_Validate hd hp (by unfold I64; omega) (by unfold I64; omega) hlen hlim fun H1 x1 => ?_
  replace x1 : HX H H1 := x1
  have l1 := x1.len
  simp (disch := omega) [hv, wm, mk, hd.len, spl4w]
  refine wLoop_up D.length (fun i fr L H' => ∃ X, (fr 1 = .int .i64 w' ∧ fr 3 = M ∧ fr 4 = T ∧ fr 5 = .lp 0 0 ∧ fr 10 = .lp 1 0 ∧ fr 13 = .lp 2 0 ∧ fr 38 = d ∧ fr 39 = .int .i64 D.length ∧ fr 40 = .int .i64 i) ∧ L = [.int .i64 w, .int .i64 q, d, p] :: [.int .i64 0, .int .i64 0, .snil, .snil] :: [.int .i64 w', .int .i64 q', .sl H1.length 0 (q' * w') 1, .snil] :: X ∧ HX H1 H' ∧ OwnV H1.length H' (.sl H1.length 0 (q' * w') 1) (mvL w' q' w inv t D i)) ⟨[], by simp [hd.len], by simp [spl4w], .push, ?_⟩ ?_
  · rw [mvL_zero]
    have := OwnV.new (n := H1.length) (H := H1) (l := zs (q' * w')) (Nat.le_refl _)
    simpa using this
  rintro i hi fr L H' ⟨X, ⟨f1, f3, f4, f5, f10, f13, f38, f39, f40⟩, rfl, hx, hv1⟩
  have hxl := hx.len
  have hd1 := hd.mono (x1.trans hx)
  simp [f1, f3, f4, f5, f10, f13, f38, f39, f40]
  refine cond_dec (fun ht => ?_) fun hfl => ?_
  · have ht : i < D.length := by omega
    have dd := hf.dd i
    obtain ⟨a1, a2⟩ := at_dm (w := w) (q := q) (k := i) (by omega) (by omega)
    obtain ⟨s1, s2, s3⟩ := m.dst (by omega) (i := i) (by omega)
    have hstep := m.step (t := t) (D := D) (by omega) (i := i) (by omega)
    have e1 : ((i : Int).tmod w) = ((i % w : Nat) : Int) := by rw [Int.tmod_eq_emod_of_nonneg (by omega)]; simp
    have e2 : ((i : Int).tdiv w) = ((i / w : Nat) : Int) := by rw [Int.tdiv_eq_ediv_of_nonneg (by omega)]; simp
    have wn : ((w : Int) = 0) = False := by simp; omega
    have hds : (((dstI w w' pm i : Nat) : Int)) = (pm ⟨(i % w : Nat), (i / w : Nat)⟩).y * (w' : Int) + (pm ⟨(i % w : Nat), (i / w : Nat)⟩).x := by
      have := inPl_iff.1 (m.pi _ a1).1
      have md := mul_bd (a := (pm ⟨(i % w : Nat), (i / w : Nat)⟩).y) (b := (w' : Int)) (A := 12) (B := 12) (by omega) (by omega)
      unfold dstI; omega
    obtain ⟨a, ha⟩ : ∃ a : Pl, a = ⟨(i % w : Nat), (i / w : Nat)⟩ := ⟨_, rfl⟩
    have e1 : ((i : Int).tmod w) = a.x := by rw [e1, ha]
    have e2 : ((i : Int).tdiv w) = a.y := by rw [e2, ha]
    rw [← ha] at hds a1
    obtain ⟨p1, p2⟩ := m.pi _ a1
    have i12 := (inPl_iff.1 a1)
    have j12 := (inPl_iff.1 p1)
    have md := mul_bd (a := (pm a).y) (b := (w' : Int)) (A := 12) (B := 12) (by omega) (by omega)
    have wmd : IntKind.i64.wrap ((pm a).y * (w' : Int)) = (pm a).y * w' := wrap_i64 (by omega) (by omega)
    simp (disch := omega) [f1, f3, f4, f5, f10, f13, f38, f39, f40, hd1.addr, hd1.load, e1, e2, wn, wrap_i64, hM, hcm, lastO, lastS]
    refine hmove _ H' _ a (x1.trans hx) (by omega) (by omega) ?_
    have hst := fun (L : Lo) => hv1.store (lim := lim) (i := dstI w w' pm i) (x := t (D.getD i 0)) (L := L) ⟨by omega, by rw [mvL_len]; exact s1⟩
    have had := hv1.sl.addr (i := ((dstI w w' pm i : Nat) : Int)) (by rw [mvL_len]; omega)
    rw [hds] at had
    have hdn : ((pm a).y * (w' : Int) + (pm a).x).toNat = dstI w w' pm i := by omega
    rw [hdn] at had
    rw [hstep] at hst
    simp (disch := omega) [f1, f3, f4, f5, f10, f13, f38, f39, f40, wrap_i64, wmd, hT, hct, lastO, lastS, rd2a, rd2b, spl2w]
    refine hturn _ H' _ _ (x1.trans hx) (by omega) ?_
    simp (disch := omega) [f1, f3, f4, f5, f10, f13, f38, f39, f40, had, hst, wrap_i64, wmd, lastO, lastS, -vstore]
    refine ⟨by omega, ⟨hM, hT⟩, setH_X hx hv1 (Nat.le_refl _), hv1.put (by simp [mvL_len])⟩
  have hi2 : i = q * w := by omega
  subst hi2
  rw [m.fin] at hv1
  have hpe := hpre.edg
  simp (disch := omega) [f1, f3, f4, f5, f10, f13, f38, f39, f40, hp.len]
  clear f1 f4 f38 f39 f40
  refine wLoop_up P.length (fun i fr L H2 => ∃ pv X, (fr 3 = M ∧ fr 5 = .lp 0 0 ∧ fr 10 = .lp 1 0 ∧ fr 13 = .lp 2 0 ∧ fr 71 = p ∧ fr 72 = .int .i64 P.length ∧ fr 73 = .int .i64 i) ∧ L = [.int .i64 w, .int .i64 q, d, p] :: [.int .i64 0, .int .i64 0, .snil, .snil] :: [.int .i64 w', .int .i64 q', .sl H1.length 0 (q' * w') 1, pv] :: X ∧ HX H' H2 ∧ OwnT H'.length edC H2 pv ((P.take i).map f)) ⟨.snil, X, by simp [f3, f5, f10, f13, hp.len], rfl, .refl, .nil⟩ ?_
  clear f3 f5 f10 f13
  rintro i hi fr L H2 ⟨pv, X, ⟨f3, f5, f10, f13, f71, f72, f73⟩, rfl, hx2, hpv⟩
  have l2 := hx2.len
  have hx02 := (x1.trans hx).trans hx2
  have hp2 := hp.mono hx02
  simp [f3, f5, f10, f13, f71, f72, f73]
  refine cond_dec (fun ht => ?_) fun hfl => ?_
  · have ht : i < P.length := by omega
    have he := hf.edg (P.getD i default) (by simp [List.getD_eq_getElem?_getD, ht])
    have e1 : P.take (i + 1) = P.take i ++ [P.getD i default] := by
      rw [List.take_add_one, List.getElem?_eq_getElem ht]; simp [List.getD_eq_getElem?_getD, ht]
    have hat := hp2.lst.at ht
    have hld := fun (L : Lo) => hp2.load (L := L) ht
    generalize P.getD i default = e at *
    have heb := isEB_iff.1 he
    have hs := steps_at (hg.trans hx02)
    have r0 : rd (some 2) tabS 0 = some (.agg [.int .i64 1, .int .i64 0]) := rfl
    have r4 : rd (some 2) tabS 4 = some (.agg [.int .i64 0, .int .i64 1]) := rfl
    obtain ⟨sg, hst⟩ := m.st e (by omega)
    obtain ⟨pv', H4, b1, b2, b3, b4, b5, b6⟩ := hpv.append (lim := lim) (bytes := 24) (x := f e) (cs := [.int .i64 (f e).x, .int .i64 (f e).y, .int .i64 (f e).u]) rfl ⟨by omega, hx2.len⟩ (by omega) (by simp; omega)
    have hE : endE e = ⟨e.x + (1 - e.u), e.y + e.u⟩ := by
      unfold endE
      rcases (show e.u = 0 ∨ e.u = 1 by omega) with h | h
      · rw [h, if_neg (by omega)]; exact pl_ext (by omega) (by omega)
      · rw [h, if_pos rfl]; exact pl_ext (by omega) (by omega)
    have q1 := m.pi ⟨e.x, e.y⟩ (by rw [inPl_iff]; simp only; omega)
    have q2 := m.pi (endE e) (by rw [hE, inPl_iff]; simp only; omega)
    rw [hE] at hst q2
    have hh : HX H H2 := hx02
    rcases (show e.u = 0 ∨ e.u = 1 by omega) with hu | hu
    · have hE2 : (⟨e.x + 1, e.y⟩ : Pl) = ⟨e.x + (1 - e.u), e.y + e.u⟩ := pl_ext (by omega) (by omega)
      simp (disch := omega) [f3, f5, f10, f13, f71, f72, f73, hat, hld, hs, r0, r4, hu, lastO, lastS, loAt, loAt0, wrap_i64, hM, hcm, rd2w, rd2a, rd2b, spl2w]
      refine hmove _ H2 _ ⟨e.x, e.y⟩ hh (by simp only; omega) (by simp only; omega) ?_
      simp (disch := omega) [f3, f5, f10, f13, f71, f72, f73, hs, r0, r4, hu, lastO, lastS, loAt, loAt0, wrap_i64, hM, hcm, rd2w, rd2a, rd2b, spl2w]
      refine hmove _ H2 _ ⟨e.x + 1, e.y⟩ hh (by simp only; omega) (by simp only; omega) ?_
      rw [hE2]
      simp (disch := omega) [f3, f5, f10, f13, f71, f72, f73, lastO, lastS, loAt, loAt0, wrap_i64, rd2w, rd2a, rd2b, spl2w]
      refine flow_between (hg.trans hh) (inPl_nar (by omega) (by omega) q1.1) (inPl_nar (by omega) (by omega) q2.1) ?_
      rw [hst]
      simp (disch := omega) [sideV, z4, f3, f5, f10, f13, f71, f72, f73, lastO, lastS, loAt, loAt0, wrap_i64, b1, b2.lst.stor, b2.lst.one]
      refine ⟨by omega, hM, b3 _ hx2 (Nat.le_refl _), ?_⟩
      rw [← List.map_take, e1, List.map_append]; exact b2
    · have hE2 : (⟨e.x, e.y + 1⟩ : Pl) = ⟨e.x + (1 - e.u), e.y + e.u⟩ := pl_ext (by omega) (by omega)
      simp (disch := omega) [f3, f5, f10, f13, f71, f72, f73, hat, hld, hs, r0, r4, hu, lastO, lastS, loAt, loAt0, wrap_i64, hM, hcm, rd2w, rd2a, rd2b, spl2w]
      refine hmove _ H2 _ ⟨e.x, e.y⟩ hh (by simp only; omega) (by simp only; omega) ?_
      simp (disch := omega) [f3, f5, f10, f13, f71, f72, f73, hs, r0, r4, hu, lastO, lastS, loAt, loAt0, wrap_i64, hM, hcm, rd2w, rd2a, rd2b, spl2w]
      refine hmove _ H2 _ ⟨e.x, e.y + 1⟩ hh (by simp only; omega) (by simp only; omega) ?_
      rw [hE2]
      simp (disch := omega) [f3, f5, f10, f13, f71, f72, f73, lastO, lastS, loAt, loAt0, wrap_i64, rd2w, rd2a, rd2b, spl2w]
      refine flow_between (hg.trans hh) (inPl_nar (by omega) (by omega) q1.1) (inPl_nar (by omega) (by omega) q2.1) ?_
      rw [hst]
      simp (disch := omega) [sideV, z4, f3, f5, f10, f13, f71, f72, f73, lastO, lastS, loAt, loAt0, wrap_i64, b1, b2.lst.stor, b2.lst.one]
      refine ⟨by omega, hM, b3 _ hx2 (Nat.le_refl _), ?_⟩
      rw [← List.map_take, e1, List.map_append]; exact b2
  have hi2 : i = P.length := by omega
  subst hi2
  rw [List.take_length] at hpv
  have hgl : ∀ b o k z, (V.sl H1.length 0 (q' * w') 1) = .sl b o k z → b < H'.length := hv1.below
  simp [f5, f10, f13, hpv.lst.stor]
  refine sort_moved hinj hf.asc hpv (by omega) (by omega) (by have := hf.pl; omega) fun H5 hs5 l5 o5 => ?_
  have hv5 : OwnV H1.length H5 (.sl H1.length 0 (q' * w') 1) (movD w' q' inv t w D) := (hv1.mono hx2).keepB fun b o k z e => o5 b (hgl b o k z e)
  have hx5 : HX H H5 := by
    refine HX.of (by omega) fun b hb => ?_
    rw [o5 b (by omega)]
    exact ((x1.trans hx).trans hx2).same hb
  have hed : EdV H5 pv (putN f P P.length) := ⟨hs5.lst, fun e he => by
    have := isEB_iff.1 (hpe e he)
    unfold Ed.in64 I64; omega⟩
  simp [f5, f10, f13, hpv.lst.stor, hv5.sl.stor]
  have hlen2 : (movD w' q' inv t w D).length ≤ 1000 ∧ (putN f P P.length).length ≤ 1000 := by
    have e9 : ((q' * w' : Nat) : Int) = (w' : Int) * q' := by rw [Nat.mul_comm]; simp
    rw [movD_len, putN_len]; omega
  refine flow_checked (W := (w' : Int)) (Q := (q' : Int)) hv5.sl hed (by unfold I64; omega) (by unfold I64; omega) hlen2 (by omega) hv' fun H6 x6 => ?_
  replace x6 : HX H5 H6 := x6
  simp [f5, f10, f13, hed.stor, hv5.sl.stor]
  exact hK _ _ _ (hx5.trans x6) (hv5.sl.mono x6) (hed.mono x6)
end
end Go.Proofs.YtjchpgkibhdoiaaDoor.Vm

namespace Go.Proofs.YtjchpgkibhdoiaaDoor.Vm
open Go
set_option maxRecDepth 100000
set_option maxHeartbeats 1000000
set_option linter.unusedSimpArgs false
set_option linter.unusedVariables false
attribute [-simp] List.getD_eq_getElem?_getD
/-- what is there if nothing is wrong -/
def eL {α : Type} (e : Int) (l : List α) : List α := if e = 0 then l else []
def eW (e n : Int) : Int := if e = 0 then n else 0
def mirD (w q : Nat) (D : List Int) : List Int := movD w q (mirM w) mirT w D
def mirN (w : Nat) (P : List Ed) : List Ed := putN (mirE w) P P.length
theorem getD_take1 {l : List Int} {k : Nat} (h : k < l.length) : l.take (k + 1) = l.take k ++ [l.getD k 0] := by
  rw [List.take_add_one, List.getElem?_eq_getElem h]; simp [List.getD_eq_getElem?_getD, h]
section
variable {lim : Nat} {H : Hp} {K : V → Hp → Prop} {v d p : V} {D : List Int} {P : List Ed} {W Q : Int} {w q : Nat}
theorem flow_MirrorU (hg : HX glHp H) (hd : SlV H d D) (hp : EdV H p P) (hW : I64 W) (hQ : I64 Q) (hl : D.length ≤ 1000 ∧ P.length ≤ 1000) (hlim : lim ≤ H.length)
    (hK : ∀ H' d' p', HX H H' → SlV H' d' (eL (validP W Q D P) (mirD W.toNat Q.toNat D)) → EdV H' p' (eL (validP W Q D P) (mirN W.toNat P)) → K (.tup [.agg [.int .i64 (eW (validP W Q D P) W), .int .i64 (eW (validP W Q D P) Q), d', p'], .int .i64 (validP W Q D P)]) H') : VCall tbl lim 18 [.agg [.int .i64 W, .int .i64 Q, d, p]] H K := by
  refine VCall_fn tbl_at18 rfl ?_
  simp [vf18, hd.stor, hp.stor]
  have x0 : HX H (H ++ [Blk.row [.int .i64 W, .int .i64 Q, d, p] true]) := .push
  have hb : ∀ {H2 : Hp}, HX (H ++ [Blk.row [.int .i64 W, .int .i64 Q, d, p] true]) H2 → H2[H.length]? = some (.row [.int .i64 W, .int .i64 Q, d, p] true) := fun hx => hx.get List.getElem?_concat_length
  by_cases h : validP W Q D P = 0
  · obtain ⟨w, q, rfl, rfl, hf⟩ := valid_pre h
    have hw1 := hf.w1
    have hq1 := hf.q1
    refine flow_moved (f := mirE w) (pm := mirM w) (inv := mirM w) (t := mirT) (fm := 49) (ft := 50) (cm := [.ptr H.length 0]) (ct := []) (mir_mvp hw1 hq1) hf (fun a b => mirE_inj) rfl rfl rfl rfl (hg.trans x0) (hd.mono x0) (hp.mono x0) (by simp; omega) h (mir_valid hf h) ((mir_mov hw1 hq1).pre hf) ?_ ?_ fun H' d' p' hx o1 o2 => ?_
    · intro lim H' K a hx ha hb2 hK
      exact mir_move (hb hx) (by omega) (by omega) hK
    · intro lim H' K n hx hn hK
      exact mir_turn hn hK
    · simp [o1.stor, o2.stor]
      have := hK H' d' p' (x0.trans hx) (by simpa [eL, h, mirD] using o1) (by simpa [eL, h, mirN] using o2)
      simpa [eW, h] using this
  · refine flow_movedBad (hd.mono x0) (hp.mono x0) hW hQ hl (by simp; omega) h rfl rfl fun H' hx => ?_
    simp
    have := hK H' .snil .snil (x0.trans hx) (by simp only [eL, h, if_false]; exact .nil) (by simp only [eL, h, if_false]; exact ⟨.nil, by simp⟩)
    simpa [eW, h] using this
theorem flow_QuarterU (hg : HX glHp H) (hd : SlV H d D) (hp : EdV H p P) (hW : I64 W) (hQ : I64 Q) (hl : D.length ≤ 1000 ∧ P.length ≤ 1000) (hlim : lim ≤ H.length)
    (hK : ∀ H' d' p', HX H H' → SlV H' d' (eL (validP W Q D P) (quaD W.toNat Q.toNat D)) → EdV H' p' (eL (validP W Q D P) (quaN Q.toNat P)) → K (.tup [.agg [.int .i64 (eW (validP W Q D P) Q), .int .i64 (eW (validP W Q D P) W), d', p'], .int .i64 (validP W Q D P)]) H') : VCall tbl lim 20 [.agg [.int .i64 W, .int .i64 Q, d, p]] H K := by
  refine VCall_fn tbl_at20 rfl ?_
  simp [vf20, hd.stor, hp.stor]
  have x0 : HX H (H ++ [Blk.row [.int .i64 W, .int .i64 Q, d, p] true]) := .push
  have hb : ∀ {H2 : Hp}, HX (H ++ [Blk.row [.int .i64 W, .int .i64 Q, d, p] true]) H2 → H2[H.length]? = some (.row [.int .i64 W, .int .i64 Q, d, p] true) := fun hx => hx.get List.getElem?_concat_length
  by_cases h : validP W Q D P = 0
  · obtain ⟨w, q, rfl, rfl, hf⟩ := valid_pre h
    have hw1 := hf.w1
    have hq1 := hf.q1
    refine flow_moved (f := quaE q) (pm := quaM q) (inv := quaI q) (t := quaT) (fm := 54) (ft := 55) (cm := [.ptr H.length 0]) (ct := []) (qua_mvp hw1 hq1) hf (fun a b => quaE_inj) rfl rfl rfl rfl (hg.trans x0) (hd.mono x0) (hp.mono x0) (by simp; omega) h (qua_valid hf h) ((qua_mov hw1 hq1).pre hf) ?_ ?_ fun H' d' p' hx o1 o2 => ?_
    · intro lim H' K a hx ha hb2 hK
      exact qua_move (hb hx) (by omega) (by omega) hK
    · intro lim H' K n hx hn hK
      exact qua_turn hn hK
    · simp [o1.stor, o2.stor]
      have := hK H' d' p' (x0.trans hx) (by simpa [eL, h, quaD] using o1) (by simpa [eL, h, quaN] using o2)
      simpa [eW, h] using this
  · refine flow_movedBad (hd.mono x0) (hp.mono x0) hW hQ hl (by simp; omega) h rfl rfl fun H' hx => ?_
    simp
    have := hK H' .snil .snil (x0.trans hx) (by simp only [eL, h, if_false]; exact .nil) (by simp only [eL, h, if_false]; exact ⟨.nil, by simp⟩)
    simpa [eW, h] using this
end
end Go.Proofs.YtjchpgkibhdoiaaDoor.Vm

namespace Go.Proofs.YtjchpgkibhdoiaaDoor.Vm
open Go
set_option maxRecDepth 100000
set_option maxHeartbeats 1000000
set_option linter.unusedSimpArgs false
set_option linter.unusedVariables false
attribute [-simp] List.getD_eq_getElem?_getD
theorem spl1 {a x : V} : splice [a] 0 [x] = [x] := by simp [splice]
theorem mirD_at {w q : Nat} {D : List Int} {i j : Nat} (hi : i < w) (hj : j < q) : (mirD w q D).getD (j * w + i) 0 = (4 - D.getD ((j : Int) * w + ((w : Int) - 1 - i)).toNat 0) % 8 := by
  unfold mirD
  rw [movD_get (idx_lt hi hj), (idx_dm hi).1, (idx_dm hi).2]; rfl
theorem quaD_at {w q : Nat} {D : List Int} {i j : Nat} (hi : i < q) (hj : j < w) : (quaD w q D).getD (j * q + i) 0 = (D.getD (((q : Int) - 1 - i) * w + j).toNat 0 + 2) % 8 := by
  unfold quaD
  rw [movD_get (idx_lt hi hj), (idx_dm hi).1, (idx_dm hi).2]; rfl
section
variable {lim : Nat} {H : Hp} {K : V → Hp → Prop} {v d p : V} {D : List Int} {P : List Ed} {W Q : Int} {w q : Nat}
theorem vapp_ownX {n : Nat} {v : V} {a : List Int} {x : Int} (h : OwnV n H v a) (hlim : lim ≤ n) (hn : n ≤ H.length) (hl : a.length < 100000) :
    ∃ v' H', vappend lim 1 8 (H ++ [.row [.int .i64 x] true]) v (.sl H.length 0 1 1) = some (v', H') ∧ OwnV n H' v' (a ++ [x]) ∧ (∀ H0, HX H0 H → H0.length ≤ n → HX H0 H') ∧ n ≤ H'.length := by
  have hy : SlV (H ++ [.row [.int .i64 x] true]) (.sl H.length 0 1 1) [x] := SlV.lit (l := [x]) (own := true) (by rw [List.getElem?_concat_length]; rfl) rfl
  obtain ⟨v', H', a1, a2, a3, a4⟩ := vapp_own (lim := lim) (h.mono .push) hy hlim (by simp; omega) ⟨by omega, by simp⟩
  exact ⟨v', H', a1, a2, fun H0 h0 hk => a3 H0 (h0.trans .push) hk, a4⟩
end
end Go.Proofs.YtjchpgkibhdoiaaDoor.Vm

namespace Go.Proofs.YtjchpgkibhdoiaaDoor.Vm
open Go
set_option maxRecDepth 100000
set_option maxHeartbeats 1000000
set_option linter.unusedSimpArgs false
set_option linter.unusedVariables false
attribute [-simp] List.getD_eq_getElem?_getD
theorem eL_len {α : Type} {e : Int} {l : List α} {n : Nat} (h : e = 0 → l.length ≤ n) : (eL e l).length ≤ n := by
  unfold eL; split
  · rename_i h2; exact h h2
  · simp
theorem mir_len {W Q : Int} {D : List Int} {P : List Ed} : (eL (validP W Q D P) (mirD W.toNat Q.toNat D)).length ≤ 1000 ∧ (eL (validP W Q D P) (mirN W.toNat P)).length ≤ 1000 := by
  refine ⟨eL_len fun h => ?_, eL_len fun h => ?_⟩ <;> obtain ⟨w, q, rfl, rfl, hf⟩ := valid_pre h
  · have m := mul_bd (a := (q : Int)) (b := (w : Int)) (A := 12) (B := 12) (by have := hf.q1; omega) (by have := hf.w1; omega)
    have e : ((q * w : Nat) : Int) = (q : Int) * w := by simp
    simp only [mirD, movD_len, Int.toNat_natCast]; omega
  · have := hf.pl
    simp only [mirN, putN_len]; omega
theorem qua_len {W Q : Int} {D : List Int} {P : List Ed} : (eL (validP W Q D P) (quaD W.toNat Q.toNat D)).length ≤ 1000 ∧ (eL (validP W Q D P) (quaN Q.toNat P)).length ≤ 1000 := by
  refine ⟨eL_len fun h => ?_, eL_len fun h => ?_⟩ <;> obtain ⟨w, q, rfl, rfl, hf⟩ := valid_pre h
  · have m := mul_bd (a := (w : Int)) (b := (q : Int)) (A := 12) (B := 12) (by have := hf.w1; omega) (by have := hf.q1; omega)
    have e : ((w * q : Nat) : Int) = (w : Int) * q := by simp
    simp only [quaD, movD_len, Int.toNat_natCast]; omega
  · have := hf.pl
    simp only [quaN, putN_len]; omega
section
variable {lim : Nat} {H : Hp} {K : V → Hp → Prop} {v d p : V} {D : List Int} {P : List Ed} {W Q k : Int} {w q : Nat}
theorem flow_SpinU (hd : SlV H d D) (hp : EdV H p P) (hW : I64 W) (hQ : I64 Q) (hk : I64 k) (hl : D.length ≤ 1000 ∧ P.length ≤ 1000) (hlim : lim ≤ H.length)
    (hK : ∀ H' d' p', HX H H' → SlV H' d' (eL (validP W Q D P) (spinL D k)) → EdV H' p' (eL (validP W Q D P) P) → K (.tup [.agg [.int .i64 (eW (validP W Q D P) W), .int .i64 (eW (validP W Q D P) Q), d', p'], .int .i64 (validP W Q D P)]) H') : VCall tbl lim 16 [.agg [.int .i64 W, .int .i64 Q, d, p], .int .i64 k] H K := by
  refine flow_Spin hd hp hW hQ hk hl hlim (fun h H' hx => ?_) fun h H' d' p' hx o1 o2 => ?_
  · have := hK H' .snil .snil hx (by simp only [eL, h, if_false]; exact .nil) (by simp only [eL, h, if_false]; exact ⟨.nil, by simp⟩)
    simpa [eW, h] using this
  · have := hK H' d' p' hx (by simpa [eL, h] using o1) (by simpa [eL, h] using o2)
    simpa [eW, h] using this
end
end Go.Proofs.YtjchpgkibhdoiaaDoor.Vm

namespace Go.Proofs.YtjchpgkibhdoiaaDoor.Vm
open Go
set_option maxRecDepth 100000
set_option maxHeartbeats 1000000
set_option linter.unusedSimpArgs false
set_option linter.unusedVariables false
attribute [-simp] List.getD_eq_getElem?_getD
theorem and1023 {n : Int} : vbin .and (.int .i64 n) (.int .i64 1023) = some (.int .i64 (n % 1024)) := by
  rw [vbin_and]
  have h : ((BitVec.ofInt IntKind.i64.bits n &&& BitVec.ofInt IntKind.i64.bits 1023).toNat : Int) = n % 1024 := by
    show ((BitVec.ofInt 64 n &&& BitVec.ofInt 64 1023).toNat : Int) = n % 1024
    rw [BitVec.toNat_and, BitVec.toNat_ofInt]
    have : (BitVec.ofInt 64 1023).toNat = 2 ^ 10 - 1 := by decide
    rw [this, Nat.and_two_pow_sub_one_eq_mod]
    omega
  rw [h, wrap_i64 (by omega) (by omega)]
section
variable {lim : Nat} {H : Hp} {K : V → Hp → Prop} {v d p : V} {D : List Int} {P : List Ed} {W Q k : Int} {w q : Nat}
theorem flow_QuarterV (hg : HX glHp H) (hd : SlV H d D) (hp : EdV H p P) (hf : PreF w q D P) (h : validP w q D P = 0) (hlim : lim ≤ H.length)
    (hK : ∀ H' d' p', HX H H' → SlV H' d' (quaD w q D) → EdV H' p' (quaN q P) → K (.tup [.agg [.int .i64 q, .int .i64 w, d', p'], .int .i64 0]) H') : VCall tbl lim 20 [.agg [.int .i64 w, .int .i64 q, d, p]] H K := by
  have hw1 := hf.w1
  have hq1 := hf.q1
  have hl : D.length ≤ 1000 ∧ P.length ≤ 1000 := by
    have := mul_bd (a := (w : Int)) (b := (q : Int)) (A := 12) (B := 12) (by omega) (by omega)
    have := hf.dl; have := hf.pl; omega
  refine flow_QuarterU hg hd hp (by unfold I64; omega) (by unfold I64; omega) hl hlim fun H' d' p' hx o1 o2 => ?_
  have := hK H' d' p' hx (by simpa [eL, h] using o1) (by simpa [eL, h] using o2)
  simpa [eW, h] using this
theorem flow_MirrorV (hg : HX glHp H) (hd : SlV H d D) (hp : EdV H p P) (hf : PreF w q D P) (h : validP w q D P = 0) (hlim : lim ≤ H.length)
    (hK : ∀ H' d' p', HX H H' → SlV H' d' (mirD w q D) → EdV H' p' (mirN w P) → K (.tup [.agg [.int .i64 w, .int .i64 q, d', p'], .int .i64 0]) H') : VCall tbl lim 18 [.agg [.int .i64 w, .int .i64 q, d, p]] H K := by
  have hw1 := hf.w1
  have hq1 := hf.q1
  have hl : D.length ≤ 1000 ∧ P.length ≤ 1000 := by
    have := mul_bd (a := (w : Int)) (b := (q : Int)) (A := 12) (B := 12) (by omega) (by omega)
    have := hf.dl; have := hf.pl; omega
  refine flow_MirrorU hg hd hp (by unfold I64; omega) (by unfold I64; omega) hl hlim fun H' d' p' hx o1 o2 => ?_
  have := hK H' d' p' hx (by simpa [eL, h] using o1) (by simpa [eL, h] using o2)
  simpa [eW, h] using this
theorem flow_SpinV (hd : SlV H d D) (hp : EdV H p P) (hf : PreF w q D P) (h : validP w q D P = 0) (hk : I64 k) (hlim : lim ≤ H.length)
    (hK : ∀ H' d' p', HX H H' → SlV H' d' (spinL D k) → EdV H' p' P → K (.tup [.agg [.int .i64 w, .int .i64 q, d', p'], .int .i64 0]) H') : VCall tbl lim 16 [.agg [.int .i64 w, .int .i64 q, d, p], .int .i64 k] H K := by
  have hw1 := hf.w1
  have hq1 := hf.q1
  have hl : D.length ≤ 1000 ∧ P.length ≤ 1000 := by
    have := mul_bd (a := (w : Int)) (b := (q : Int)) (A := 12) (B := 12) (by omega) (by omega)
    have := hf.dl; have := hf.pl; omega
  exact flow_Spin hd hp (by unfold I64; omega) (by unfold I64; omega) hk hl hlim (fun hne => absurd h hne) fun _ => hK
theorem spin_pre (hf : PreF w q D P) (h : validP w q D P = 0) {k : Int} : PreF w q (spinL D k) P := by
  obtain ⟨w', q', e1, e2, hf'⟩ := valid_pre (spin_valid hf h (k := k))
  have : w' = w := by omega
  subst this
  have : q' = q := by omega
  subst this
  exact hf'
end
end Go.Proofs.YtjchpgkibhdoiaaDoor.Vm
