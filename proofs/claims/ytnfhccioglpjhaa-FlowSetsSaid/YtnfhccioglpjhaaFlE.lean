/- Fields of directions over the machine: Validate. -/
import Derived.Test.YtnfhccioglpjhaaFlD
namespace Go.Proofs.Ytnfhccioglpjhaa.Vm
open Go
set_option maxRecDepth 100000
set_option linter.unusedSimpArgs false
set_option linter.unusedVariables false
attribute [-simp] List.getD_eq_getElem?_getD

theorem validP_1 {W Q : Int} {D : List Int} {P : List Ed} (h : W < 1 ∨ 12 < W ∨ Q < 1 ∨ 12 < Q ∨ (D.length : Int) ≠ W * Q) : validP W Q D P = 1 := by simp only [validP]; rw [if_pos h]
theorem validP_2 {W Q : Int} {D : List Int} {P : List Ed} (h : ¬ (W < 1 ∨ 12 < W ∨ Q < 1 ∨ 12 < Q ∨ (D.length : Int) ≠ W * Q)) : validP W Q D P =
    if allN (dOk D) D.length = false then 1
    else if 60 < P.length then 4
    else if allN (pOk W Q P) P.length = false then 1
    else if allN (shOk W.toNat D P (edL W.toNat Q.toNat W.toNat)) (edL W.toNat Q.toNat W.toNat).length = false then 9 else 0 := by
  simp only [validP]; rw [if_neg h]
theorem PreF.of {w q : Nat} {D : List Int} {P : List Ed} (h : ¬ ((w : Int) < 1 ∨ 12 < (w : Int) ∨ (q : Int) < 1 ∨ 12 < (q : Int) ∨ (D.length : Int) ≠ (w : Int) * q)) (h2 : allN (dOk D) D.length = true) (h3 : ¬ 60 < P.length) (h4 : allN (pOk w q P) P.length = true) : PreF w q D P := by
  refine ⟨by omega, by omega, by omega, fun i => ?_, by omega, fun i hi => allN_at h4 hi⟩
  by_cases hi : i < D.length
  · have := allN_at h2 hi
    simpa [dOk] using this
  · rw [getD_big (by omega)]; omega
theorem edL_at {w q : Nat} {i : Nat} (hi : i < (edL w q w).length) : isEB w q ((edL w q w).getD i default).x ((edL w q w).getD i default).y ((edL w q w).getD i default).u = true :=
  edL_ok w _ (by simp [List.getD_eq_getElem?_getD, hi])
theorem OwnT.edv {n : Nat} {H : Hp} {v : V} {w q : Nat} (hw : 1 ≤ w ∧ w ≤ 12) (hq : 1 ≤ q ∧ q ≤ 12) (h : OwnT n edC H v (edL w q w)) : EdV H v (edL w q w) := by
  refine ⟨h.lst, fun e he => ?_⟩
  have := edL_ok w e he
  simp only [isEB, decide_eq_true_eq] at this
  unfold Ed.in64 I64; omega

section
variable {lim : Nat} {H : Hp} {K : V → Hp → Prop} {v d p : V} {D : List Int} {P : List Ed} {W Q x y u : Int} {w q : Nat}
theorem flow_Validate (hd : SlV H d D) (hp : EdV H p P) (hW : I64 W) (hQ : I64 Q) (hl : D.length ≤ 100000 ∧ P.length ≤ 100000) (hlim : lim ≤ H.length) (hK : ∀ H', HX H H' → K (.int .i64 (validP W Q D P)) H') : VCall tbl lim 15 [.agg [.int .i64 W, .int .i64 Q, d, p]] H K := by
  refine VCall_fn tbl_at15 rfl ?_
  by_cases h1 : W < 1
  · have e := validP_1 (W := W) (Q := Q) (D := D) (P := P) (by omega)
    rw [e] at hK
    simp [vf15, hd.stor, hp.stor, h1]
    exact hK _ .refl
  by_cases h2 : 12 < W
  · have e := validP_1 (W := W) (Q := Q) (D := D) (P := P) (by omega)
    rw [e] at hK
    simp [vf15, hd.stor, hp.stor, h2]
    exact hK _ .refl
  by_cases h3 : Q < 1
  · have e := validP_1 (W := W) (Q := Q) (D := D) (P := P) (by omega)
    rw [e] at hK
    simp [vf15, hd.stor, hp.stor, h3]
    exact hK _ .refl
  by_cases h4 : 12 < Q
  · have e := validP_1 (W := W) (Q := Q) (D := D) (P := P) (by omega)
    rw [e] at hK
    simp [vf15, hd.stor, hp.stor, h4]
    exact hK _ .refl
  obtain ⟨w, rfl⟩ := Int.eq_ofNat_of_zero_le (show 0 ≤ W by omega)
  obtain ⟨q, rfl⟩ := Int.eq_ofNat_of_zero_le (show 0 ≤ Q by omega)
  have hm := mul_bd (a := (w : Int)) (b := (q : Int)) (A := 12) (B := 12) (by omega) (by omega)
  have w1 : IntKind.i64.wrap ((w : Int) * q) = (w : Int) * q := wrap_i64 (by omega) (by omega)
  simp [vf15, hd.stor, hp.stor, hd.len, hp.len, h1, h2, h3, h4, w1]
  refine cond_ndec (fun h5 => ?_) fun h5 => ?_
  · have e := validP_1 (W := w) (Q := q) (D := D) (P := P) (by omega)
    rw [e] at hK
    simp
    exact hK _ .refl
  have h0 : ¬ ((w : Int) < 1 ∨ 12 < (w : Int) ∨ (q : Int) < 1 ∨ 12 < (q : Int) ∨ (D.length : Int) ≠ (w : Int) * q) := by omega
  rw [validP_2 h0] at hK
  simp [hd.len]
  refine wLoop_up D.length (fun i fr L H' => (fr 1 = .lp 0 0 ∧ fr 39 = d ∧ fr 40 = .int .i64 D.length ∧ fr 41 = .int .i64 i) ∧ L = [[.int .i64 w, .int .i64 q, d, p]] ∧ H' = H ∧ allN (dOk D) i = true) ⟨by simp [hd.len], rfl, rfl, rfl⟩ ?_
  rintro i hi fr L H1 ⟨⟨f1, f39, f40, f41⟩, rfl, e1, hb⟩
  have e1 := e1.symm
  subst e1
  simp [f1, f39, f40, f41]
  refine cond_dec (fun ht => ?_) fun hfl => ?_
  · have ht : i < D.length := by omega
    simp (disch := omega) [f1, f39, f40, f41, hd.addr, hd.load]
    refine cond_bool (fun h => ?_) fun h => ?_
    · have h : D.getD i 0 < 0 ∨ 7 < D.getD i 0 := by simpa using h
      have := allN_not (f := dOk D) ht (by simp [dOk]; omega)
      simp
      simp only [this, if_true] at hK
      exact hK _ .refl
    · have h : ¬ (D.getD i 0 < 0 ∨ 7 < D.getD i 0) := by simp at h; omega
      have e : dOk D i = true := by simp [dOk]; omega
      simp (disch := omega) [f1, f39, f40, f41, wrap_i64, allN, hb, e]
      omega
  have : i = D.length := by omega
  subst this
  simp only [hb, Bool.true_eq_false, if_false] at hK
  simp [f1, f39, f40, f41, hp.len]
  refine cond_dec (fun h6 => ?_) fun h6 => ?_
  · have h6 : 60 < P.length := by omega
    simp only [h6, if_true] at hK
    simp
    exact hK _ .refl
  have h6 : ¬ 60 < P.length := by omega
  simp only [h6, if_false] at hK
  simp [f1, hp.len]
  clear f39 f40 f41
  refine wLoop_up P.length (fun i fr L H' => ∃ X, (fr 1 = .lp 0 0 ∧ fr 57 = p ∧ fr 58 = .int .i64 P.length ∧ fr 59 = .int .i64 i) ∧ L = [.int .i64 w, .int .i64 q, d, p] :: X ∧ HX H H' ∧ allN (pOk w q P) i = true) ⟨[], by simp [f1, hp.len], rfl, .refl, rfl⟩ ?_
  clear f1
  rintro i hi fr L H2 ⟨X, ⟨f1, f57, f58, f59⟩, rfl, hx, hb2⟩
  have hxl := hx.len
  have hp2 := hp.mono hx
  have hd2 := hd.mono hx
  simp [f1, f57, f58, f59]
  refine cond_dec (fun ht => ?_) fun hfl => ?_
  · have ht : i < P.length := by omega
    by_cases ok : isEB w q (P.getD i default).x (P.getD i default).y (P.getD i default).u = true
    case neg =>
      have := allN_not (f := pOk w q P) ht (by simp [pOk, ok])
      simp only [this, if_true] at hK
      simp (disch := omega) [f1, f57, f58, f59, hp2.addr, hp2.load, lastO, lastS, hd.stor, hp.stor]
      refine flow_isEdge (W := (w : Int)) (Q := (q : Int)) hd.stor hp.stor (by omega) (by omega) ?_
      simp [ok]
      exact hK _ hx
    by_cases i0 : i = 0
    · have e : pOk w q P i = true := by simp [pOk, i0]; rw [← i0]; exact ok
      subst i0
      simp (disch := omega) [f1, f57, f58, f59, hp2.addr, hp2.load, lastO, lastS, hd.stor, hp.stor]
      refine flow_isEdge (W := (w : Int)) (Q := (q : Int)) hd.stor hp.stor (by omega) (by omega) ?_
      simp (disch := omega) [ok, f1, f57, f58, f59, wrap_i64, allN, e]
      exact ⟨by omega, hx⟩
    · have hi1 : ((i : Int) - 1).toNat = i - 1 := by omega
      have ip : 0 < i := by omega
      simp (disch := omega) [f1, f57, f58, f59, hp2.addr, hp2.load, lastO, lastS, hd.stor, hp.stor, hp2.len]
      refine flow_isEdge (W := (w : Int)) (Q := (q : Int)) hd.stor hp.stor (by omega) (by omega) ?_
      simp (disch := omega) [ok, f1, f57, f58, f59, wrap_i64, ip, hi1, hp2.addr, hp2.load, lastO, lastS]
      refine flow_compareEdges (a := P.getD (i - 1) default) (b := P.getD i default) (by first | exact Nat.le_refl _ | omega) fun H3 x3 => ?_
      simp
      refine cond_dec (fun h => ?_) fun h => ?_
      · have nb := cmpE_lt.1 h
        have := allN_not (f := pOk w q P) ht (by simp [pOk, ok, i0, nb])
        simp only [this, if_true] at hK
        simp
        exact hK _ (hx.trans x3)
      · have nb : bef (P.getD (i - 1) default) (P.getD i default) := by
          have := mt cmpE_lt.2 h
          exact Decidable.not_not.1 this
        have e : pOk w q P i = true := by simp [pOk, ok, nb]
        simp (disch := omega) [f1, f57, f58, f59, wrap_i64, allN, e, hb2]
        exact ⟨by omega, hx.trans x3⟩
  have : i = P.length := by omega
  subst this
  simp only [hb2, Bool.true_eq_false, if_false] at hK
  have hf := PreF.of h0 hb h6 hb2
  simp [f1, hd.stor, hp.stor]
  refine flow_edges (w := w) (q := q) hd.stor hp.stor hf.w1 hf.q1 (by omega) fun H3 lv x3 hlv => ?_
  have hx3 := hx.trans x3
  have hel := edL_len (w := w) hf.q1.2 w
  have hev := hlv.edv hf.w1 hf.q1
  have hd3 := hd.mono hx3
  have hp3 := hp.mono hx3
  have hw1 := hf.w1
  simp only [Int.toNat_natCast] at hK
  simp [f1, hev.len]
  refine wLoop_up (edL w q w).length (fun i fr L H' => ∃ X, (fr 1 = .lp 0 0 ∧ fr 85 = lv ∧ fr 86 = .int .i64 (edL w q w).length ∧ fr 87 = .int .i64 i) ∧ L = [.int .i64 w, .int .i64 q, d, p] :: X ∧ H' = H3 ∧ allN (shOk w D P (edL w q w)) i = true) ⟨X, by simp [f1, hev.len], rfl, rfl, rfl⟩ ?_
  clear f1 f57 f58 f59 X
  rintro i hi fr L H' ⟨X, ⟨f1, f85, f86, f87⟩, rfl, rfl, hb3⟩
  simp [f1, f85, f86, f87]
  refine cond_dec (fun ht => ?_) fun hfl => ?_
  · have ht : i < (edL w q w).length := by omega
    simp (disch := omega) [f1, f85, f86, f87, hev.addr, hev.load, lastO, lastS, hd.stor, hp.stor]
    refine flow_turning hd3 hp3 hf (edL_at ht) ?_
    simp
    refine cond_dec (fun h => ?_) fun h => ?_
    · have := allN_not (f := shOk w D P (edL w q w)) ht (by simp [shOk, h])
      simp only [this, if_true] at hK
      simp
      exact hK _ hx3
    · have e : shOk w D P (edL w q w) i = true := by simp [shOk, h]
      simp (disch := omega) [f1, f85, f86, f87, wrap_i64, allN, e, hb3]
      omega
  · have : i = (edL w q w).length := by omega
    subst this
    simp only [hb3, Bool.true_eq_false, if_false] at hK
    simp
    exact hK _ hx3
theorem ref_Validate (hd : SlV H d D) (hp : EdV H p P) (hW : I64 W) (hQ : I64 Q) (hl : D.length ≤ 100000 ∧ P.length ≤ 100000) (hlim : lim ≤ H.length) (hK : ∀ H', HX H H' → K (.int .i64 (validP W Q D P)) H') : VCall tbl lim 19 [.agg [.int .i64 W, .int .i64 Q, d, p]] H K := by
  refine VCall_fn tbl_at19 rfl ?_
  by_cases h1 : 1 ≤ W ∧ W ≤ 12
  case neg =>
    have e := validP_1 (W := W) (Q := Q) (D := D) (P := P) (by omega)
    rw [e] at hK
    simp [vf19, hd.stor, hp.stor]
    refine ref_within ?_
    simp [h1]
    exact hK _ .refl
  by_cases h3 : 1 ≤ Q ∧ Q ≤ 12
  case neg =>
    have e := validP_1 (W := W) (Q := Q) (D := D) (P := P) (by omega)
    rw [e] at hK
    simp [vf19, hd.stor, hp.stor]
    refine ref_within ?_
    simp [h1]
    refine ref_within ?_
    simp [h3]
    exact hK _ .refl
  obtain ⟨w, rfl⟩ := Int.eq_ofNat_of_zero_le (show 0 ≤ W by omega)
  obtain ⟨q, rfl⟩ := Int.eq_ofNat_of_zero_le (show 0 ≤ Q by omega)
  have hm := mul_bd (a := (w : Int)) (b := (q : Int)) (A := 12) (B := 12) (by omega) (by omega)
  have w1 : IntKind.i64.wrap ((w : Int) * q) = (w : Int) * q := wrap_i64 (by omega) (by omega)
  simp [vf19, hd.stor, hp.stor]
  refine ref_within ?_
  simp [h1]
  refine ref_within ?_
  simp [h3, hd.len, hp.len, w1]
  refine cond_ndec (fun h5 => ?_) fun h5 => ?_
  · have e := validP_1 (W := w) (Q := q) (D := D) (P := P) (by omega)
    rw [e] at hK
    simp
    exact hK _ .refl
  have h0 : ¬ ((w : Int) < 1 ∨ 12 < (w : Int) ∨ (q : Int) < 1 ∨ 12 < (q : Int) ∨ (D.length : Int) ≠ (w : Int) * q) := by omega
  rw [validP_2 h0] at hK
  refine wLoop_up D.length (fun i fr L H' => (fr 1 = .lp 0 0 ∧ fr 3 = .int .i64 i) ∧ L = [[.int .i64 w, .int .i64 q, d, p]] ∧ H' = H ∧ allN (dOk D) i = true) ⟨by simp, rfl, rfl, rfl⟩ ?_
  rintro i hi fr L H1 ⟨⟨f1, f3⟩, rfl, e1, hb⟩
  have e1 := e1.symm
  subst e1
  simp [f1, f3, hd.len]
  refine cond_dec (fun ht => ?_) fun hfl => ?_
  · have ht : i < D.length := by omega
    simp (disch := omega) [f1, f3, hd.addr, hd.load]
    refine ref_within ?_
    by_cases h : 0 ≤ D.getD i 0 ∧ D.getD i 0 ≤ 7
    · have e : dOk D i = true := by simp [dOk]; omega
      simp (disch := omega) [f1, f3, wrap_i64, allN, hb, e, h]
      omega
    · have := allN_not (f := dOk D) ht (by simp [dOk]; omega)
      simp [h]
      simp only [this, if_true] at hK
      exact hK _ .refl
  have : i = D.length := by omega
  subst this
  simp only [hb, Bool.true_eq_false, if_false] at hK
  simp [f1, f3, hp.len]
  refine cond_dec (fun h6 => ?_) fun h6 => ?_
  · have h6 : 60 < P.length := by omega
    simp only [h6, if_true] at hK
    simp
    exact hK _ .refl
  have h6 : ¬ 60 < P.length := by omega
  simp only [h6, if_false] at hK
  simp [f1]
  clear f3
  refine wLoop_up P.length (fun i fr L H' => (fr 1 = .lp 0 0 ∧ fr 4 = .int .i64 i) ∧ L = [[.int .i64 w, .int .i64 q, d, p]] ∧ HX H H' ∧ allN (pOk w q P) i = true) ⟨by simp [f1], rfl, .refl, rfl⟩ ?_
  clear f1
  rintro i hi fr L H2 ⟨⟨f1, f4⟩, rfl, hx, hb2⟩
  have hxl := hx.len
  have hp2 := hp.mono hx
  have hd2 := hd.mono hx
  simp [f1, f4, hp2.len]
  refine cond_dec (fun ht => ?_) fun hfl => ?_
  · have ht : i < P.length := by omega
    by_cases ok : isEB w q (P.getD i default).x (P.getD i default).y (P.getD i default).u = true
    case neg =>
      have := allN_not (f := pOk w q P) ht (by simp [pOk, ok])
      simp only [this, if_true] at hK
      simp (disch := omega) [f1, f4, hp2.addr, hp2.load, hd.stor, hp.stor]
      refine ref_isEdge (W := (w : Int)) (Q := (q : Int)) hd.stor hp.stor (by omega) (by omega) ?_
      simp [ok]
      exact hK _ hx
    by_cases i0 : i = 0
    · have e : pOk w q P i = true := by simp [pOk, i0]; rw [← i0]; exact ok
      subst i0
      simp (disch := omega) [f1, f4, hp2.addr, hp2.load, hd.stor, hp.stor]
      refine ref_isEdge (W := (w : Int)) (Q := (q : Int)) hd.stor hp.stor (by omega) (by omega) ?_
      simp (disch := omega) [ok, f1, f4, wrap_i64, allN, e]
      exact ⟨by omega, hx⟩
    · have hi1 : ((i : Int) - 1).toNat = i - 1 := by omega
      have ip : 0 < i := by omega
      simp (disch := omega) [f1, f4, hp2.addr, hp2.load, hd.stor, hp.stor, hp2.len]
      refine ref_isEdge (W := (w : Int)) (Q := (q : Int)) hd.stor hp.stor (by omega) (by omega) ?_
      simp (disch := omega) [ok, f1, f4, wrap_i64, ip, hi1, hp2.addr, hp2.load]
      refine ref_before (a := P.getD (i - 1) default) (b := P.getD i default) ?_
      by_cases nb : bef (P.getD (i - 1) default) (P.getD i default)
      · have e : pOk w q P i = true := by simp [pOk, ok, nb]
        simp (disch := omega) [f1, f4, wrap_i64, allN, e, hb2, nb]
        exact ⟨by omega, hx⟩
      · have := allN_not (f := pOk w q P) ht (by simp [pOk, ok, i0, nb])
        simp only [this, if_true] at hK
        simp [nb]
        exact hK _ hx
  have : i = P.length := by omega
  subst this
  simp only [hb2, Bool.true_eq_false, if_false] at hK
  have hf := PreF.of h0 hb h6 hb2
  simp [f1, hd.stor, hp.stor]
  refine ref_edges (w := w) (q := q) hd.stor hp.stor hf.w1 hf.q1 (by omega) fun H3 lv x3 hlv => ?_
  have hx3 := hx.trans x3
  have hel := edL_len (w := w) hf.q1.2 w
  have hev := hlv.edv hf.w1 hf.q1
  have hd3 := hd.mono hx3
  have hp3 := hp.mono hx3
  have hw1 := hf.w1
  simp only [Int.toNat_natCast] at hK
  simp [f1]
  refine wLoop_up (edL w q w).length (fun i fr L H' => (fr 1 = .lp 0 0 ∧ fr 5 = lv ∧ fr 6 = .int .i64 i) ∧ L = [[.int .i64 w, .int .i64 q, d, p]] ∧ H' = H3 ∧ allN (shOk w D P (edL w q w)) i = true) ⟨by simp [f1], rfl, rfl, rfl⟩ ?_
  clear f1 f4
  rintro i hi fr L H' ⟨⟨f1, f5, f6⟩, rfl, rfl, hb3⟩
  simp [f1, f5, f6, hev.len]
  refine cond_dec (fun ht => ?_) fun hfl => ?_
  · have ht : i < (edL w q w).length := by omega
    simp (disch := omega) [f1, f5, f6, hev.addr, hev.load, hd.stor, hp.stor]
    refine ref_turning hd3 hp3 hf (edL_at ht) ?_
    simp
    refine cond_dec (fun h => ?_) fun h => ?_
    · have := allN_not (f := shOk w D P (edL w q w)) ht (by simp [shOk, h])
      simp only [this, if_true] at hK
      simp
      exact hK _ hx3
    · have e : shOk w D P (edL w q w) i = true := by simp [shOk, h]
      simp (disch := omega) [f1, f5, f6, wrap_i64, allN, e, hb3]
      omega
  · have : i = (edL w q w).length := by omega
    subst this
    simp only [hb3, Bool.true_eq_false, if_false] at hK
    simp
    exact hK _ hx3
end
end Go.Proofs.Ytnfhccioglpjhaa.Vm
