/- Combings, whorls and rims together over the machine: TopWhorls. -/
import Derived.Test.YtjchpgkibhdoiaaDoorWhA
namespace Go.Proofs.YtjchpgkibhdoiaaDoor.Vm
open Go
set_option maxRecDepth 100000
set_option maxHeartbeats 2000000
set_option linter.unusedSimpArgs false
set_option linter.unusedVariables false
attribute [-simp] List.getD_eq_getElem?_getD
theorem insP_bd {W Q : Int} {D : List Int} {P : List Ed} {S : List Pl} (hn : S.length ≤ 200) : -5000 ≤ (insP W Q D P S).1 ∧ (insP W Q D P S).1 ≤ 5000 := by
  unfold insP; split
  · have := tS_bd (f := idxS W.toNat D P) (l := S) (B := 25) (fun _ _ => idx_bd) (Nat.le_refl _)
    rw [tS_all] at this; simp only; omega
  · simp
theorem rim_ins {W Q : Int} {D : List Int} {P : List Ed} {S : List Pl} : (rimP W Q D P S).1 = 4 * (insP W Q D P S).1 ∧ (rimP W Q D P S).2 = (insP W Q D P S).2 := by
  unfold rimP insP; split <;> exact ⟨rfl, rfl⟩
theorem ins_lit : insP 2 2 [5, 7, 3, 1] [] [⟨0, 0⟩] = (2, 0) := by decide +kernel
section
variable {lim : Nat} {H : Hp} {K : V → Hp → Prop} {v d p sv : V} {D : List Int} {P : List Ed} {S : List Pl} {W Q x y k : Int} {w q : Nat}
theorem top_whorls (hd : SlV H d D) (hp : EdV H p P) (hf : PreF w q D P) (hval : validP w q D P = 0) (hlim : lim ≤ H.length) (hK : ∀ H', HX H H' → K (.int .i64 (totP w q D P)) H') : VCall tbl lim 34 [.agg [.int .i64 w, .int .i64 q, d, p]] H K := by
  refine VCall_fn tbl_at34 rfl ?_
  have hw1 := hf.w1
  have hq1 := hf.q1
  have hl : D.length ≤ 1000 ∧ P.length ≤ 1000 := by
    have := mul_bd (a := (w : Int)) (b := (q : Int)) (A := 12) (B := 12) (by omega) (by omega)
    have := hf.dl; have := hf.pl; omega
  simp [vf34, hd.stor, hp.stor]
  refine flow_Whorls hd hp (by unfold I64; omega) (by unfold I64; omega) hl hlim fun H1 lv x1 o1 => ?_
  replace x1 : HX H H1 := x1
  obtain ⟨b1, b2⟩ := whP_bd hf hval
  have hs := whP_sum (w := w) (q := q) hval
  generalize whP w q D P = l at *
  simp [o1.lst.stor]
  refine wLoop_up l.length (fun i fr L H' => (fr 3 = lv ∧ fr 5 = .int .i64 (uSum l i) ∧ fr 6 = .int .i64 i) ∧ H' = H1) ⟨by simp [uSum], rfl⟩ ?_
  rintro i hi fr L H' ⟨⟨f3, f5, f6⟩, e0⟩
  have e0 := e0.symm
  subst e0
  simp [f3, f5, f6, o1.lst.len]
  refine cond_dec (fun ht => ?_) fun hfl => ?_
  · have ht : i < l.length := by omega
    have ad := o1.lst.at ht
    have fa2 : vfaddr 2 (ept 3 lv i) = some (eptf 3 lv i 2) := o1.lst.faddr ht
    have ld2 : ∀ L, vload none L H1 (eptf 3 lv i 2) = some (.int .i64 (l.getD i default).u) := fun L => o1.lst.rd1 ht (by omega)
    have u1 := uSum_bd b2 (i := i) (by omega)
    have u2 := uSum_bd b2 (i := i + 1) (by omega)
    have u3 := uSum_succ ht
    rw [u3] at u2
    simp (disch := omega) [f3, f5, f6, ad, fa2, ld2, wrap_i64, u3]
    omega
  · have : i = l.length := by omega
    subst this
    rw [hs] at f5
    simp [f5]
    exact hK _ x1
theorem law_TopWhorls {ws : List V} {f : Fld} {cx cy cw ch : Int} (hv : FldV H ws f) (hs : LstV plC H sv S) (hg : HX glHp H) (hlim : lim ≤ H.length) (bx : I64 cx) (by' : I64 cy) (bw : I64 cw) (bh : I64 ch) (hK : ∀ H', K (.bool true) H') :
    VCall tbl lim 10 [.agg ws, sv, .agg [.int .i64 cx, .int .i64 cy, .int .i64 cw, .int .i64 ch]] H K := by
  cases hv with
  | mk hW hQ hd hp hD =>
    rename_i d p W Q D P
    refine VCall_fn tbl_at10 rfl ?_
    have iz4 : ints (zs 4) = [.int .i64 0, .int .i64 0, .int .i64 0, .int .i64 0] := rfl
    simp [vf10, hd.stor, hp.stor, hs.stor, vbslice_some, iz4, splice]
    have z1 : HX H (H ++ [.row [.int .i64 5, .int .i64 7, .int .i64 3, .int .i64 1] true]) := HX.push
    have hl4 : SlV (H ++ [.row [.int .i64 5, .int .i64 7, .int .i64 3, .int .i64 1] true]) (.sl H.length 0 4 1) [5, 7, 3, 1] := SlV.lit (l := [_, _, _, _]) (by rw [List.getElem?_concat_length]; rfl) rfl
    have z2 : HX (H ++ [.row [.int .i64 5, .int .i64 7, .int .i64 3, .int .i64 1] true]) (H ++ [.row [.int .i64 5, .int .i64 7, .int .i64 3, .int .i64 1] true, .row [.int .i64 0, .int .i64 0] true]) := ⟨[.row [.int .i64 0, .int .i64 0] true], by simp⟩
    have hl1 : LstV plC (H ++ [.row [.int .i64 5, .int .i64 7, .int .i64 3, .int .i64 1] true, .row [.int .i64 0, .int .i64 0] true]) (.sl (H.length + 1) 0 1 2) [⟨0, 0⟩] :=
      LstV.sl (c := plC) (l := [(⟨0, 0⟩ : Pl)]) (off := 0) (b := H.length + 1) (own := true) (cs := [.int .i64 0, .int .i64 0]) (by simp) (by simp) rfl
    have hnil : EdV (H ++ [.row [.int .i64 5, .int .i64 7, .int .i64 3, .int .i64 1] true, .row [.int .i64 0, .int .i64 0] true]) .snil [] := ⟨.nil, fun e he => by simp at he⟩
    refine flow_Inside (S := [⟨0, 0⟩]) (D := [5, 7, 3, 1]) (P := []) (W := 2) (Q := 2) (hl4.mono z2) hnil hl1 (by unfold I64; omega) (by unfold I64; omega) (by simp) (by simp) (by simp; omega) fun H1 x1 => ?_
    replace x1 : HX _ H1 := x1
    have y1 : HX H H1 := (z1.trans z2).trans x1
    have l1 := y1.len
    clear z1 z2 hl4 hl1 hnil x1
    rw [ins_lit]
    simp [hd.stor, hp.stor]
    refine fl_Long (hd.mono y1) (hp.mono y1) ?_
    simp only [Bool.decide_or]
    by_cases h : 400 < D.length ∨ 200 < P.length
    · have e : (decide (400 < D.length) || decide (200 < P.length)) = true := by simpa using h
      simp [e]
      exact hK _
    have e : (decide (400 < D.length) || decide (200 < P.length)) = false := by
      simp only [Bool.or_eq_false_iff, decide_eq_false_iff_not]; omega
    have hl : D.length ≤ 1000 ∧ P.length ≤ 1000 := by omega
    by_cases h2 : (200 : Int) < (S.length : Int)
    · simp [e, hs.len, h2]
      exact hK _
    have hn : S.length ≤ 200 := by omega
    simp [e, hs.len, h2, hd.stor, hp.stor]
    have hd1 := hd.mono y1
    have hp1 := hp.mono y1
    have hs1 := hs.mono y1
    refine flow_Validate hd1 hp1 hW hQ hl (by omega) fun H2 x2 => ?_
    replace x2 : HX H1 H2 := x2
    have l2 := x2.len
    simp
    refine cond_ndec (fun hv0 => ?_) fun hv0 => ?_
    · simp; exact hK _
    obtain ⟨w, q, rfl, rfl, hf⟩ := valid_pre hv0
    have b1 := hf.w1
    have b3 := hf.q1
    have y2 := y1.trans x2
    simp [hd.stor, hp.stor, hs.stor]
    refine flow_Inside (hd.mono y2) (hp.mono y2) (hs.mono y2) hW hQ hl hn (by omega) fun H3 x3 => ?_
    replace x3 : HX H2 H3 := x3
    have l3 := x3.len
    have y3 := y2.trans x3
    simp [hd.stor, hp.stor, hs.stor]
    refine flow_Rim (hd.mono y3) (hp.mono y3) (hs.mono y3) hW hQ hl hn (by omega) fun H4 x4 => ?_
    replace x4 : HX H3 H4 := x4
    have l4 := x4.len
    have y4 := y3.trans x4
    have er := rim_ins (W := w) (Q := q) (D := D) (P := P) (S := S)
    have eb := insP_bd (W := w) (Q := q) (D := D) (P := P) hn
    rw [er.1, er.2]
    generalize insP w q D P S = ir at *
    clear er
    simp (disch := omega) [wrap_i64, hd.stor, hp.stor]
    refine flow_Crop (hd.mono y4) (hp.mono y4) hW hQ bx by' bw bh hl (by omega) (fun hc H5 x5 => ?_) fun hc H5 d' p' x5 hd5 hp5 => ?_
    · simp [splice, hc]
      exact hK _
    replace x5 : HX H4 H5 := x5
    have l5 := x5.len
    have y5 := y4.trans x5
    have hok : cropOk w q cx cy cw ch ∧ validP cw ch (catR (cropD w D cx.toNat cy.toNat cw.toNat) ch.toNat) (cropP cw ch cx cy P P.length) = 0 := by
      unfold cropE at hc
      rw [if_neg (by rw [hv0]; simp)] at hc
      split at hc
      · omega
      · rename_i h; exact ⟨Decidable.not_not.1 h, by simpa using hc⟩
    obtain ⟨hok, hvc⟩ := hok
    unfold cropOk at hok
    obtain ⟨X, rfl⟩ := Int.eq_ofNat_of_zero_le hok.1
    obtain ⟨Y, rfl⟩ := Int.eq_ofNat_of_zero_le hok.2.2.1
    obtain ⟨m, rfl⟩ := Int.eq_ofNat_of_zero_le (show 0 ≤ cw by omega)
    obtain ⟨n, rfl⟩ := Int.eq_ofNat_of_zero_le (show 0 ≤ ch by omega)
    simp only [Int.toNat_natCast] at hvc hd5 hp5
    obtain ⟨_, _, em, en, hfc⟩ := valid_pre hvc
    have em := Int.ofNat.inj em
    have en := Int.ofNat.inj en
    subst em en
    have hreg := grid_reg hv0 (X := X) (Y := Y) (m := m) (n := n) (by omega) (by omega) (by omega) (by omega)
    have htot := grid_tot hf (X := X) (Y := Y) (m := m) (n := n) (by omega) (by omega) (by omega) (by omega) hfc
    have hwlk := fun h2 : 2 ≤ m => fun h3 : 2 ≤ n => rect_walk hf hv0 (X := X) (Y := Y) h2 h3 (by omega) (by omega)
    have hemp := grid_emp (X := X) (Y := Y) (m := m) (n := n)
    generalize catR (cropD w D X Y m) n = D' at *
    generalize cropP m n X Y P P.length = P' at *
    have hgl : ((n - 1) * (m - 1)) ≤ 11 * 11 := Nat.mul_le_mul (by omega) (by omega)
    simp [splice, hd5.stor, hp5.lst.stor]
    refine wLoop_up (n - 1) (fun i fr L H' => ∃ lv, (fr 3 = .lp 0 0 ∧ fr 5 = .lp 1 0 ∧ fr 12 = .lp 2 0 ∧ fr 14 = lv ∧ fr 15 = .snil ∧ fr 16 = .int .i64 i) ∧ L = [[.int .i64 w, .int .i64 q, d, p], [.int .i64 X, .int .i64 Y, .int .i64 m, .int .i64 n], [.int .i64 m, .int .i64 n, d', p']] ∧ HX H5 H' ∧ OwnT H5.length plC H' lv (gridL X Y (m - 1) (i * (m - 1)))) ⟨.snil, by simp, by simp [splice], .refl, by simp [gridL]; exact .nil⟩ ?_
    rintro i hi fr L H6 ⟨lv, ⟨f3, f5, f12, f14, f15, f16⟩, rfl, x6, ol⟩
    have l6 := x6.len
    simp (disch := omega) [f3, f5, f12, f14, f15, f16, wrap_i64]
    refine cond_dec (fun ht => ?_) fun hfl => ?_
    · have ht : i < n - 1 := by omega
      have hgi : i * (m - 1) ≤ 11 * 11 := Nat.mul_le_mul (by omega) (by omega)
      simp
      refine wLoop_up (m - 1) (fun j fr L H' => ∃ lv, (fr 3 = .lp 0 0 ∧ fr 5 = .lp 1 0 ∧ fr 12 = .lp 2 0 ∧ fr 14 = lv ∧ fr 15 = .snil ∧ fr 16 = .int .i64 i ∧ fr 17 = .int .i64 j) ∧ L = [[.int .i64 w, .int .i64 q, d, p], [.int .i64 X, .int .i64 Y, .int .i64 m, .int .i64 n], [.int .i64 m, .int .i64 n, d', p']] ∧ HX H5 H' ∧ OwnT H5.length plC H' lv (gridL X Y (m - 1) (i * (m - 1) + j))) ⟨lv, by simp [f3, f5, f12, f14, f15, f16], rfl, x6, by simpa using ol⟩ ?_
      clear f3 f5 f12 f14 f15 f16 ol
      rintro j hj fr L H7 ⟨lv, ⟨f3, f5, f12, f14, f15, f16, f17⟩, rfl, x7, ol⟩
      have l7 := x7.len
      simp (disch := omega) [f3, f5, f12, f14, f15, f16, f17, wrap_i64]
      refine cond_dec (fun ht2 => ?_) fun hfl2 => ?_
      · have ht2 : j < m - 1 := by omega
        have hgp : gridL X Y (m - 1) (i * (m - 1) + (j + 1)) = gridL X Y (m - 1) (i * (m - 1) + j) ++ [⟨(X : Int) + j, (Y : Int) + i⟩] := by
          rw [← Nat.add_assoc, gridL_succ, gridP_at ht2]
        obtain ⟨lv', H8, a1, a2, a3, a4, a5, a6⟩ := ol.append (lim := lim) (bytes := 16) (x := ⟨(X : Int) + j, (Y : Int) + i⟩) (cs := [.int .i64 ((X : Int) + j), .int .i64 ((Y : Int) + i)]) rfl ⟨by omega, x7.len⟩ (by omega) (by rw [gridL_len]; omega)
        simp (disch := omega) [f3, f5, f12, f14, f15, f16, f17, wrap_i64, vbslice_some, splice, a1, a2.lst.stor, a2.lst.one]
        refine ⟨by omega, a3 _ x7 (Nat.le_refl _), ?_⟩
        rw [hgp]; exact a2
      · have : j = m - 1 := by omega
        subst this
        have e : i * (m - 1) + (m - 1) = (i + 1) * (m - 1) := by rw [Nat.add_mul, Nat.one_mul]
        rw [e] at ol
        simp (disch := omega) [f3, f5, f12, f14, f15, f16, f17, wrap_i64]
        exact ⟨by omega, x7, ol⟩
    have : i = n - 1 := by omega
    subst this
    have hla := ol.lst
    have hga := gridL_len (X := (X : Int)) (Y := (Y : Int)) (m := m - 1) (k := (n - 1) * (m - 1))
    generalize gridL X Y (m - 1) ((n - 1) * (m - 1)) = A at *
    simp (disch := omega) [f3, f5, f12, f14, f15, wrap_i64]
    clear f16
    refine wLoop_up (m) (fun i fr L H' => ∃ pv, (fr 3 = .lp 0 0 ∧ fr 5 = .lp 1 0 ∧ fr 12 = .lp 2 0 ∧ fr 14 = lv ∧ fr 15 = pv ∧ fr 18 = .int .i64 ((i : Int))) ∧ L = [[.int .i64 w, .int .i64 q, d, p], [.int .i64 X, .int .i64 Y, .int .i64 m, .int .i64 n], [.int .i64 m, .int .i64 n, d', p']] ∧ HX H6 H' ∧ OwnT H6.length plC H' pv (rectL X Y m n (i))) ⟨.snil, by simp [f3, f5, f12, f14, f15], rfl, .refl, by simp [rectL]; exact .nil⟩ ?_
    clear f3 f5 f12 f14 f15
    rintro i hi fr L H7 ⟨pv, ⟨f3, f5, f12, f14, f15, fv⟩, rfl, x7, opH7⟩
    have lx7 := x7.len
    simp (disch := omega) [f3, f5, f12, f14, f15, fv, wrap_i64]
    refine cond_dec (fun ht => ?_) fun hfl => ?_
    · have ht : i < m := by omega
      have hgp : rectL X Y m n ((i + 1)) = rectL X Y m n (i) ++ [⟨(X : Int) + i, (Y : Int)⟩] := by
        rw [rectL_succ]
        have : rectP X Y m n (i) = ⟨(X : Int) + i, (Y : Int)⟩ := by
          unfold rectP
          rw [if_pos (by omega)]
        rw [this]
      obtain ⟨pv', H8, a1, a2, a3, a4, a5, a6⟩ := opH7.append (lim := lim) (bytes := 16) (x := ⟨(X : Int) + i, (Y : Int)⟩) (cs := [.int .i64 ((X : Int) + i), .int .i64 ((Y : Int))]) rfl ⟨by omega, x7.len⟩ (by omega) (by rw [rectL_len]; omega)
      simp (disch := omega) [f3, f5, f12, f14, f15, fv, wrap_i64, vbslice_some, splice, a1, a2.lst.stor, a2.lst.one]
      first | refine ⟨by omega, a3 _ x7 (Nat.le_refl _), ?_⟩ | refine ⟨by omega, by omega, a3 _ x7 (Nat.le_refl _), ?_⟩ | refine ⟨by omega, _, ⟨rfl, by omega⟩, a3 _ x7 (Nat.le_refl _), ?_⟩
      rw [hgp]; exact a2
    have : m = i := by omega
    subst this
    simp (disch := omega) [f3, f5, f12, f14, f15, wrap_i64]
    refine wLoop_up (n - 1) (fun i fr L H' => ∃ pv, (fr 3 = .lp 0 0 ∧ fr 5 = .lp 1 0 ∧ fr 12 = .lp 2 0 ∧ fr 14 = lv ∧ fr 15 = pv ∧ fr 19 = .int .i64 ((i : Int) + 1)) ∧ L = [[.int .i64 w, .int .i64 q, d, p], [.int .i64 X, .int .i64 Y, .int .i64 m, .int .i64 n], [.int .i64 m, .int .i64 n, d', p']] ∧ HX H6 H' ∧ OwnT H6.length plC H' pv (rectL X Y m n (m + i))) ⟨pv, by simp [f3, f5, f12, f14, f15], rfl, x7, opH7⟩ ?_
    clear f3 f5 f12 f14 f15
    rintro i hi fr L H9 ⟨pv, ⟨f3, f5, f12, f14, f15, fv⟩, rfl, x9, opH9⟩
    have lx9 := x9.len
    simp (disch := omega) [f3, f5, f12, f14, f15, fv, wrap_i64]
    refine cond_dec (fun ht => ?_) fun hfl => ?_
    · have ht : i < n - 1 := by omega
      have hgp : rectL X Y m n (m + (i + 1)) = rectL X Y m n (m + i) ++ [⟨(X : Int) + m - 1, (Y : Int) + ((i : Int) + 1)⟩] := by
        rw [← Nat.add_assoc, rectL_succ]
        have : rectP X Y m n (m + i) = ⟨(X : Int) + m - 1, (Y : Int) + ((i : Int) + 1)⟩ := by
          unfold rectP
          rw [if_neg (by omega), if_pos (by omega)]; exact pl_mk (by omega) (by omega)
        rw [this]
      obtain ⟨pv', H8, a1, a2, a3, a4, a5, a6⟩ := opH9.append (lim := lim) (bytes := 16) (x := ⟨(X : Int) + m - 1, (Y : Int) + ((i : Int) + 1)⟩) (cs := [.int .i64 ((X : Int) + m - 1), .int .i64 ((Y : Int) + ((i : Int) + 1))]) rfl ⟨by omega, x9.len⟩ (by omega) (by rw [rectL_len]; omega)
      simp (disch := omega) [f3, f5, f12, f14, f15, fv, wrap_i64, vbslice_some, splice, a1, a2.lst.stor, a2.lst.one]
      first | refine ⟨by omega, a3 _ x9 (Nat.le_refl _), ?_⟩ | refine ⟨by omega, by omega, a3 _ x9 (Nat.le_refl _), ?_⟩ | refine ⟨by omega, _, ⟨rfl, by omega⟩, a3 _ x9 (Nat.le_refl _), ?_⟩
      rw [hgp]; exact a2
    have : n - 1 = i := by omega
    subst this
    simp (disch := omega) [f3, f5, f12, f14, f15, wrap_i64]
    refine wLoop_up (m - 1) (fun i fr L H' => ∃ pv, (fr 3 = .lp 0 0 ∧ fr 5 = .lp 1 0 ∧ fr 12 = .lp 2 0 ∧ fr 14 = lv ∧ fr 15 = pv ∧ fr 20 = .int .i64 ((m : Int) - 2 - i)) ∧ L = [[.int .i64 w, .int .i64 q, d, p], [.int .i64 X, .int .i64 Y, .int .i64 m, .int .i64 n], [.int .i64 m, .int .i64 n, d', p']] ∧ HX H6 H' ∧ OwnT H6.length plC H' pv (rectL X Y m n (m + (n - 1) + i))) ⟨pv, by simp [f3, f5, f12, f14, f15], rfl, x9, opH9⟩ ?_
    clear f3 f5 f12 f14 f15
    rintro i hi fr L H10 ⟨pv, ⟨f3, f5, f12, f14, f15, fv⟩, rfl, x10, opH10⟩
    have lx10 := x10.len
    simp (disch := omega) [f3, f5, f12, f14, f15, fv, wrap_i64]
    refine cond_dec (fun ht => ?_) fun hfl => ?_
    · have ht : i < m - 1 := by omega
      have hgp : rectL X Y m n (m + (n - 1) + (i + 1)) = rectL X Y m n (m + (n - 1) + i) ++ [⟨(X : Int) + ((m : Int) - 2 - i), (Y : Int) + n - 1⟩] := by
        rw [← Nat.add_assoc, rectL_succ]
        have : rectP X Y m n (m + (n - 1) + i) = ⟨(X : Int) + ((m : Int) - 2 - i), (Y : Int) + n - 1⟩ := by
          unfold rectP
          rw [if_neg (by omega), if_neg (by omega), if_pos (by omega)]; exact pl_mk (by omega) (by omega)
        rw [this]
      obtain ⟨pv', H8, a1, a2, a3, a4, a5, a6⟩ := opH10.append (lim := lim) (bytes := 16) (x := ⟨(X : Int) + ((m : Int) - 2 - i), (Y : Int) + n - 1⟩) (cs := [.int .i64 ((X : Int) + ((m : Int) - 2 - i)), .int .i64 ((Y : Int) + n - 1)]) rfl ⟨by omega, x10.len⟩ (by omega) (by rw [rectL_len]; omega)
      simp (disch := omega) [f3, f5, f12, f14, f15, fv, wrap_i64, vbslice_some, splice, a1, a2.lst.stor, a2.lst.one]
      first | refine ⟨by omega, a3 _ x10 (Nat.le_refl _), ?_⟩ | refine ⟨by omega, by omega, a3 _ x10 (Nat.le_refl _), ?_⟩ | refine ⟨by omega, _, ⟨rfl, by omega⟩, a3 _ x10 (Nat.le_refl _), ?_⟩
      rw [hgp]; exact a2
    have : m - 1 = i := by omega
    subst this
    simp (disch := omega) [f3, f5, f12, f14, f15, wrap_i64]
    refine wLoop_up (n - 1) (fun i fr L H' => ∃ pv, (fr 3 = .lp 0 0 ∧ fr 5 = .lp 1 0 ∧ fr 12 = .lp 2 0 ∧ fr 14 = lv ∧ fr 15 = pv ∧ fr 21 = .int .i64 ((n : Int) - 2 - i)) ∧ L = [[.int .i64 w, .int .i64 q, d, p], [.int .i64 X, .int .i64 Y, .int .i64 m, .int .i64 n], [.int .i64 m, .int .i64 n, d', p']] ∧ HX H6 H' ∧ OwnT H6.length plC H' pv (rectL X Y m n (m + (n - 1) + (m - 1) + i))) ⟨pv, by simp [f3, f5, f12, f14, f15], rfl, x10, opH10⟩ ?_
    clear f3 f5 f12 f14 f15
    rintro i hi fr L H11 ⟨pv, ⟨f3, f5, f12, f14, f15, fv⟩, rfl, x11, opH11⟩
    have lx11 := x11.len
    simp (disch := omega) [f3, f5, f12, f14, f15, fv, wrap_i64]
    refine cond_dec (fun ht => ?_) fun hfl => ?_
    · have ht : i < n - 1 := by omega
      have hgp : rectL X Y m n (m + (n - 1) + (m - 1) + (i + 1)) = rectL X Y m n (m + (n - 1) + (m - 1) + i) ++ [⟨(X : Int), (Y : Int) + ((n : Int) - 2 - i)⟩] := by
        rw [← Nat.add_assoc, rectL_succ]
        have : rectP X Y m n (m + (n - 1) + (m - 1) + i) = ⟨(X : Int), (Y : Int) + ((n : Int) - 2 - i)⟩ := by
          unfold rectP
          rw [if_neg (by omega), if_neg (by omega), if_neg (by omega)]; exact pl_mk (by omega) (by omega)
        rw [this]
      obtain ⟨pv', H8, a1, a2, a3, a4, a5, a6⟩ := opH11.append (lim := lim) (bytes := 16) (x := ⟨(X : Int), (Y : Int) + ((n : Int) - 2 - i)⟩) (cs := [.int .i64 ((X : Int)), .int .i64 ((Y : Int) + ((n : Int) - 2 - i))]) rfl ⟨by omega, x11.len⟩ (by omega) (by rw [rectL_len]; omega)
      simp (disch := omega) [f3, f5, f12, f14, f15, fv, wrap_i64, vbslice_some, splice, a1, a2.lst.stor, a2.lst.one]
      first | refine ⟨by omega, a3 _ x11 (Nat.le_refl _), ?_⟩ | refine ⟨by omega, by omega, a3 _ x11 (Nat.le_refl _), ?_⟩ | refine ⟨by omega, _, ⟨rfl, by omega⟩, a3 _ x11 (Nat.le_refl _), ?_⟩
      rw [hgp]; exact a2
    have : n - 1 = i := by omega
    subst this
    simp (disch := omega) [f3, f5, f12, f14, f15, wrap_i64]
    have ek : m + (n - 1) + (m - 1) + (n - 1) = 2 * m + 2 * n - 3 := by omega
    rw [ek] at opH11
    have hpl := opH11.lst
    have hrl := rectL_len (X := (X : Int)) (Y := (Y : Int)) (m := m) (n := n) (k := 2 * m + 2 * n - 3)
    clear opH11 opH7 opH9 opH10
    generalize rectL X Y m n (2 * m + 2 * n - 3) = B at *
    have y11 : HX H H11 := (y5.trans x6).trans x11
    have hins : insP w q D P A = (totP m n D' P', 0) := by unfold insP; rw [if_pos hreg, Int.toNat_natCast, htot]
    have tb := insP_bd (W := w) (Q := q) (D := D) (P := P) (S := A) (by omega)
    rw [hins] at tb
    simp only at tb
    have ht0 : m < 2 ∨ n < 2 → totP m n D' P' = 0 := by intro h; rw [← htot, hemp h]; rfl
    have htw : 2 ≤ m → 2 ≤ n → wkP w q D P B = (4 * totP m n D' P', 0) := by intro g1 g2; rw [hwlk g1 g2, htot]
    simp [f3, f5, f12, f14, f15, hd.stor, hp.stor, hpl.stor, hla.stor, hd5.stor, hp5.lst.stor, spl4w]
    refine flow_Walk (hg.trans y11) (hd.mono y11) (hp.mono y11) hpl hW hQ hl (by omega) (by omega) fun H12 x12 => ?_
    replace x12 : HX H11 H12 := x12
    have l12 := x12.len
    have y12 := y11.trans x12
    generalize wkP w q D P B = wk at *
    simp [f3, f5, f12, f14, f15, hd.stor, hp.stor, hpl.stor, hla.stor, hd5.stor, hp5.lst.stor, spl4w]
    refine flow_Inside (hd.mono y12) (hp.mono y12) (hla.mono (x11.trans x12)) hW hQ hl (by omega) (by omega) fun H13 x13 => ?_
    replace x13 : HX H12 H13 := x13
    have l13 := x13.len
    have y13 := y12.trans x13
    have c13 : HX H5 H13 := ((x6.trans x11).trans x12).trans x13
    rw [hins]
    have hw1 := hfc.w1
    have hq1 := hfc.q1
    have hfM := (mir_mov hw1 hq1).pre hfc
    have hvM := mir_valid hfc hvc
    have hfQ := (qua_mov hw1 hq1).pre hfc
    have hvQ := qua_valid hfc hvc
    have tq : totP n m (quaD m n D') (quaN n P') = totP m n D' P' := qua_tot hfc hvc
    have tm : totP m n (mirD m n D') (mirN m P') = totP m n D' P' := mir_tot hfc hvc
    have ts : totP m n (spinL D' ((X : Int) + 3)) P' = totP m n D' P' := spin_tot hfc
    have hfS := spin_pre hfc hvc (k := (X : Int) + 3)
    have hvS := spin_valid hfc hvc (k := (X : Int) + 3)
    simp [f3, f5, f12, f14, f15, hd.stor, hp.stor, hpl.stor, hla.stor, hd5.stor, hp5.lst.stor, spl4w]
    refine top_whorls (hd5.mono c13) (hp5.mono c13) hfc hvc (by omega) fun H14 x14 => ?_
    replace x14 : HX H13 H14 := x14
    have l14 := x14.len
    have c14 := c13.trans x14
    have y14 := y13.trans x14
    simp [f3, f5, f12, f14, f15, hd.stor, hp.stor, hpl.stor, hla.stor, hd5.stor, hp5.lst.stor, spl4w]
    refine flow_MirrorV (hg.trans y14) (hd5.mono c14) (hp5.mono c14) hfc hvc (by omega) fun H15 d15 p15 x15 a15 b15 => ?_
    replace x15 : HX H14 H15 := x15
    have l15 := x15.len
    have c15 := c14.trans x15
    have y15 := y14.trans x15
    simp [f3, f5, f12, f14, f15, hd.stor, hp.stor, hpl.stor, hla.stor, hd5.stor, hp5.lst.stor, a15.stor, b15.lst.stor, spl4w]
    refine flow_QuarterV (hg.trans y15) (hd5.mono c15) (hp5.mono c15) hfc hvc (by omega) fun H16 d16 p16 x16 a16 b16 => ?_
    replace x16 : HX H15 H16 := x16
    have l16 := x16.len
    have c16 := c15.trans x16
    have y16 := y15.trans x16
    simp (disch := omega) [f3, f5, f12, f14, f15, wrap_i64, hd.stor, hp.stor, hpl.stor, hla.stor, hd5.stor, hp5.lst.stor, a15.stor, b15.lst.stor, a16.stor, b16.lst.stor, spl4w]
    refine flow_SpinV (k := (X : Int) + 3) (hd5.mono c16) (hp5.mono c16) hfc hvc (by unfold I64; omega) (by omega) fun H17 d17 p17 x17 a17 b17 => ?_
    replace x17 : HX H16 H17 := x17
    have l17 := x17.len
    have c17 := c16.trans x17
    have y17 := y16.trans x17
    generalize totP m n D' P' = tt at *
    by_cases hsm : m < 2 ∨ n < 2
    · rw [ht0 hsm]
      by_cases hm2 : (m : Int) < 2
      · simp [f3, f5, f12, f14, f15, hd.stor, hp.stor, hpl.stor, hla.stor, hd5.stor, hp5.lst.stor, a15.stor, b15.lst.stor, a16.stor, b16.lst.stor, a17.stor, b17.lst.stor, spl4w, hm2]
        exact hK _
      · have hn2 : (n : Int) < 2 := by omega
        simp [f3, f5, f12, f14, f15, hd.stor, hp.stor, hpl.stor, hla.stor, hd5.stor, hp5.lst.stor, a15.stor, b15.lst.stor, a16.stor, b16.lst.stor, a17.stor, b17.lst.stor, spl4w, hm2, hn2]
        exact hK _
    have hm2 : ¬ (m : Int) < 2 := by omega
    have hn2 : ¬ (n : Int) < 2 := by omega
    rw [htw (by omega) (by omega)]
    simp (disch := omega) [f3, f5, f12, f14, f15, wrap_i64, hd.stor, hp.stor, hpl.stor, hla.stor, hd5.stor, hp5.lst.stor, a15.stor, b15.lst.stor, a16.stor, b16.lst.stor, a17.stor, b17.lst.stor, spl4w, hm2, hn2]
    refine top_whorls (a15.mono (x16.trans x17)) (b15.mono (x16.trans x17)) hfM hvM (by omega) fun H18 x18 => ?_
    replace x18 : HX H17 H18 := x18
    have l18 := x18.len
    rw [tm]
    simp (disch := omega) [f3, f5, f12, f14, f15, wrap_i64, hd.stor, hp.stor, hpl.stor, hla.stor, hd5.stor, hp5.lst.stor, a15.stor, b15.lst.stor, a16.stor, b16.lst.stor, a17.stor, b17.lst.stor, spl4w, hm2, hn2]
    refine top_whorls (a16.mono (x17.trans x18)) (b16.mono (x17.trans x18)) hfQ hvQ (by omega) fun H19 x19 => ?_
    replace x19 : HX H18 H19 := x19
    have l19 := x19.len
    rw [tq]
    simp (disch := omega) [f3, f5, f12, f14, f15, wrap_i64, hd.stor, hp.stor, hpl.stor, hla.stor, hd5.stor, hp5.lst.stor, a15.stor, b15.lst.stor, a16.stor, b16.lst.stor, a17.stor, b17.lst.stor, spl4w, hm2, hn2]
    refine top_whorls (a17.mono (x18.trans x19)) (b17.mono (x18.trans x19)) hfS hvS (by omega) fun H20 x20 => ?_
    replace x20 : HX H19 H20 := x20
    have l20 := x20.len
    have c20 := ((c17.trans x18).trans x19).trans x20
    rw [ts]
    simp (disch := omega) [f3, f5, f12, f14, f15, wrap_i64, hd.stor, hp.stor, hpl.stor, hla.stor, hd5.stor, hp5.lst.stor, a15.stor, b15.lst.stor, a16.stor, b16.lst.stor, a17.stor, b17.lst.stor, spl4w, hm2, hn2]
    refine ref_Validate (hd5.mono c20) (hp5.mono c20) bw bh ?_ (by omega) fun H21 x21 => ?_
    · have := mul_bd (a := (m : Int)) (b := (n : Int)) (A := 12) (B := 12) (by omega) (by omega)
      have := hfc.dl; have := hfc.pl; omega
    rw [hvc]
    simp
    exact hK _
end
end Go.Proofs.YtjchpgkibhdoiaaDoor.Vm
