/- Regions of squares over the machine: which lists of squares are right. -/
import Derived.Test.YtjchpgkibhdoiaaRiA
import Derived.Test.YtjchpgkibhdoiaaMpA
namespace Go.Proofs.Ytjchpgkibhdoiaa.Vm
open Go
set_option maxRecDepth 100000
set_option maxHeartbeats 1000000
set_option linter.unusedSimpArgs false
set_option linter.unusedVariables false
attribute [-simp] List.getD_eq_getElem?_getD
def sqOk (W Q : Int) (S : List Pl) (i : Nat) : Bool := isSB W Q (S.getD i default).x (S.getD i default).y
def newOk (S : List Pl) (i : Nat) : Bool := !decide (S.getD i default ∈ S.take i)
def regE (W Q : Int) (D : List Int) (P : List Ed) (S : List Pl) : Int :=
  if validP W Q D P ≠ 0 then validP W Q D P else if allN (sqOk W Q S) S.length = false then 5 else if allN (newOk S) S.length = false then 7 else 0
theorem take_mem {S : List Pl} {i : Nat} (h : i < S.length) : S.take (i + 1) = S.take i ++ [S.getD i default] := by
  rw [List.take_add_one, List.getElem?_eq_getElem h]; simp [List.getD_eq_getElem?_getD, h]
theorem regE_ok {W Q : Int} {D : List Int} {P : List Ed} {S : List Pl} (h : regE W Q D P S = 0) : ∃ w q : Nat, W = w ∧ Q = q ∧ PreF w q D P ∧ validP W Q D P = 0 ∧ (∀ s ∈ S, isSB W Q s.x s.y = true) ∧ S.Nodup := by
  unfold regE at h
  split at h
  · rename_i h1; exact absurd h h1
  rename_i h1
  split at h
  · omega
  rename_i h2
  split at h
  · omega
  rename_i h3
  have h1 : validP W Q D P = 0 := by omega
  obtain ⟨w, q, rfl, rfl, hf⟩ := valid_pre h1
  refine ⟨w, q, rfl, rfl, hf, h1, fun s hs => ?_, ?_⟩
  · obtain ⟨i, hi, rfl⟩ := List.mem_iff_getElem.1 hs
    have := allN_at (by simpa using h2) hi
    simpa [sqOk, List.getD_eq_getElem?_getD, hi] using this
  · refine List.pairwise_iff_getElem.2 fun i j hi hj hij e => ?_
    have := allN_at (by simpa using h3) hj
    simp only [newOk, Bool.not_eq_true', decide_eq_false_iff_not, List.getD_eq_getElem?_getD, List.getElem?_eq_getElem hj, Option.getD_some] at this
    exact this (by rw [← e]; exact List.mem_take_iff_getElem.2 ⟨i, by omega, rfl⟩)
section
variable {lim : Nat} {H : Hp} {K : V → Hp → Prop} {v d p sv : V} {D : List Int} {P : List Ed} {S : List Pl} {W Q x y u : Int} {w q : Nat}
theorem flow_validateSquares (hd : SlV H d D) (hp : EdV H p P) (hs : LstV plC H sv S) (hW : I64 W) (hQ : I64 Q) (hl : D.length ≤ 1000 ∧ P.length ≤ 1000) (hn : S.length ≤ 200) (hlim : lim ≤ H.length)
    (hK : ∀ H', HX H H' → K (.int .i64 (regE W Q D P S)) H') : VCall tbl lim 53 [.agg [.int .i64 W, .int .i64 Q, d, p], sv] H K := by
  refine VCall_fn tbl_at53 rfl ?_
  simp [vf53, hd.stor, hp.stor]
  refine flow_Validate hd hp hW hQ hl hlim fun H1 x1 => ?_
  replace x1 : HX H H1 := x1
  have l1 := x1.len
  simp
  refine cond_ndec (fun h => ?_) fun h => ?_
  · have := hK _ x1
    simp only [regE, ne_eq, h, not_false_eq_true, if_true] at this
    simp
    exact this
  obtain ⟨w, q, rfl, rfl, hf⟩ := valid_pre h
  have hw1 := hf.w1
  have hq1 := hf.q1
  have eR : regE w q D P S = if allN (sqOk w q S) S.length = false then 5 else if allN (newOk S) S.length = false then 7 else 0 := by simp [regE, h]
  rw [eR] at hK
  clear eR
  have hs1 := hs.mono x1
  simp [hs.len]
  refine wLoop_up S.length (fun i fr L H' => ∃ X, (fr 1 = sv ∧ fr 2 = .lp 0 0 ∧ fr 16 = sv ∧ fr 17 = .int .i64 S.length ∧ fr 18 = .int .i64 i) ∧ L = [.int .i64 w, .int .i64 q, d, p] :: X ∧ H' = H1 ∧ allN (sqOk w q S) i = true) ⟨[], by simp [hs.len], rfl, rfl, rfl⟩ ?_
  rintro i hi fr L H' ⟨X, ⟨f1, f2, f16, f17, f18⟩, rfl, e0, hok⟩
  have e0 := e0.symm
  subst e0
  simp [f1, f2, f16, f17, f18]
  refine cond_dec (fun ht => ?_) fun hfl => ?_
  · have ht : i < S.length := by omega
    have hat := hs1.at ht
    have hld := fun (L : Lo) => hs1.load (L := L) ht
    have hsq : sqOk w q S i = isSB w q (S.getD i default).x (S.getD i default).y := rfl
    generalize hse : S.getD i default = s at *
    simp (disch := omega) [f1, f2, f16, f17, f18, hat, hld, plC, Pl.cells, lastO, lastS, hd.stor, hp.stor]
    refine flow_isSquare hd.stor hp.stor (by omega) (by omega) ?_
    rw [isSB_w, ← hsq]
    cases hq : sqOk w q S i with
    | false =>
      have := allN_not ht hq
      simp only [this, if_true] at hK
      simp
      exact hK _ x1
    | true =>
      simp (disch := omega) [f1, f2, f16, f17, f18, wrap_i64, allN, hok, hq]
      omega
  have hi2 : S.length = i := by omega
  subst hi2
  simp only [hok, Bool.true_eq_false, if_false] at hK
  simp [f1, f2, hs.len]
  clear f16 f17 f18
  refine wLoop_up S.length (fun i fr L H' => ∃ X l, (fr 8 = .mp H1.length ∧ fr 31 = sv ∧ fr 32 = .int .i64 S.length ∧ fr 33 = .int .i64 i) ∧ L = X ∧ H' = H1 ++ [.map (mE kI2 V.bool l)] ∧ (∀ a : Int × Int, (look a l).getD false = decide (∃ s ∈ S.take i, (s.x, s.y) = a)) ∧ allN (newOk S) i = true) ⟨_, [], by simp [f1, hs.len], rfl, by simp [mE], by simp [look, lkI], rfl⟩ ?_
  clear f1 f2 X
  rintro i hi fr L H2 ⟨X, l, ⟨f8, f31, f32, f33⟩, e1, e2, hlk, hnw⟩
  have e1 := e1.symm
  subst e1
  simp [f8, f31, f32, f33]
  refine cond_dec (fun ht => ?_) fun hfl => ?_
  · have ht : i < S.length := by omega
    have x2 : HX H1 H2 := by rw [e2]; exact .push
    have hs2 := hs1.mono x2
    have hat := hs2.at ht
    have hld := fun (L : Lo) => hs2.load (L := L) ht
    have hmem : newOk S i = !decide (S.getD i default ∈ S.take i) := rfl
    have htk := take_mem ht
    generalize hse : S.getD i default = s at *
    have hb : H2[H1.length]? = some (.map (mE kI2 V.bool l)) := by rw [e2]; simp
    have hg : vmget true [.int .i64, .int .i64] false (.bool false) H2 (.mp H1.length) (.agg [.int .i64 s.x, .int .i64 s.y]) = some (.bool ((look (s.x, s.y) l).getD false)) := vmgetE (K := kI2) (vc := V.bool) (z := false) (a := (s.x, s.y)) hb
    have hpu : vmput lim true [.int .i64, .int .i64] H2 (.mp H1.length) (.agg [.int .i64 s.x, .int .i64 s.y]) (.bool true) = some (H2.set H1.length (.map (mE kI2 V.bool (putA (s.x, s.y) true l)))) := vmputE (K := kI2) (vc := V.bool) (u := true) (a := (s.x, s.y)) hb (by omega) rfl
    have hin : (look (s.x, s.y) l).getD false = decide (s ∈ S.take i) := by
      rw [hlk, decide_eq_decide]
      constructor
      · rintro ⟨t, ht, e⟩
        have : t = s := by
          rw [pl_eq]
          simp only [Prod.mk.injEq] at e
          exact e
        rw [← this]; exact ht
      · intro h; exact ⟨s, h, rfl⟩
    rw [hin] at hg
    simp (disch := omega) [f8, f31, f32, f33, hat, hld, plC, Pl.cells, lastO, lastS, hg]
    cases hq : decide (s ∈ S.take i) with
    | true =>
      have := allN_not (f := newOk S) ht (by rw [hmem, hq]; rfl)
      simp only [this, if_true] at hK
      simp
      exact hK _ (x1.trans x2)
    | false =>
      have hset : H2.set H1.length (.map (mE kI2 V.bool (putA (s.x, s.y) true l))) = H1 ++ [.map (mE kI2 V.bool (putA (s.x, s.y) true l))] := by rw [e2]; simp
      rw [hset] at hpu
      simp (disch := omega) [f8, f31, f32, f33, lastO, lastS, hpu, wrap_i64, allN, hnw, hmem, hq]
      refine ⟨by omega, _, rfl, fun a1 a2 => ?_⟩
      rw [look_put]
      by_cases e : ((a1, a2) : Int × Int) = (s.x, s.y)
      · rw [if_pos e]
        simp only [Option.getD_some]
        symm
        rw [decide_eq_true_eq]
        simp only [Prod.mk.injEq] at e
        exact ⟨s, by rw [htk]; simp, e.1.symm, e.2.symm⟩
      · rw [if_neg e, hlk, decide_eq_decide]
        rw [htk]
        simp only [Prod.mk.injEq] at e
        constructor
        · rintro ⟨t, h1, h2⟩
          simp only [Prod.mk.injEq] at h2
          exact ⟨t, List.mem_append_left _ h1, h2⟩
        · rintro ⟨t, h1, h2⟩
          rcases List.mem_append.1 h1 with h1 | h1
          · exact ⟨t, h1, by simp only [Prod.mk.injEq]; exact h2⟩
          · simp at h1; subst h1; exact absurd ⟨h2.1.symm, h2.2.symm⟩ e
  have hi2 : S.length = i := by omega
  subst hi2
  simp only [hnw, Bool.true_eq_false, if_false] at hK
  simp
  exact hK _ (x1.trans (by rw [e2]; exact .push))
theorem ref_region (hd : SlV H d D) (hp : EdV H p P) (hs : LstV plC H sv S) (hW : I64 W) (hQ : I64 Q) (hl : D.length ≤ 1000 ∧ P.length ≤ 1000) (hn : S.length ≤ 200) (hlim : lim ≤ H.length)
    (hK : ∀ H', HX H H' → K (.int .i64 (regE W Q D P S)) H') : VCall tbl lim 54 [.agg [.int .i64 W, .int .i64 Q, d, p], sv] H K := by
  refine VCall_fn tbl_at54 rfl ?_
  simp [vf54, hd.stor, hp.stor]
  refine ref_Validate hd hp hW hQ hl hlim fun H1 x1 => ?_
  replace x1 : HX H H1 := x1
  have l1 := x1.len
  simp
  refine cond_ndec (fun h => ?_) fun h => ?_
  · have := hK _ x1
    simp only [regE, ne_eq, h, not_false_eq_true, if_true] at this
    simp
    exact this
  obtain ⟨w, q, rfl, rfl, hf⟩ := valid_pre h
  have hw1 := hf.w1
  have hq1 := hf.q1
  have eR : regE w q D P S = if allN (sqOk w q S) S.length = false then 5 else if allN (newOk S) S.length = false then 7 else 0 := by simp [regE, h]
  rw [eR] at hK
  clear eR
  have hs1 := hs.mono x1
  simp
  refine wLoop_up S.length (fun i fr L H' => (fr 1 = sv ∧ fr 2 = .lp 0 0 ∧ fr 6 = .int .i64 i) ∧ L = [[.int .i64 w, .int .i64 q, d, p]] ∧ H' = H1 ∧ allN (sqOk w q S) i = true) ⟨by simp, rfl, rfl, rfl⟩ ?_
  rintro i hi fr L H' ⟨⟨f1, f2, f6⟩, rfl, e0, hok⟩
  have e0 := e0.symm
  subst e0
  simp [f1, f2, f6, hs.len]
  refine cond_dec (fun ht => ?_) fun hfl => ?_
  · have ht : i < S.length := by omega
    have ad := hs1.at ht
    have fa0 : vfaddr 0 (ept 2 sv i) = some (eptf 2 sv i 0) := hs1.faddr ht
    have fa1 : vfaddr 1 (ept 2 sv i) = some (eptf 2 sv i 1) := hs1.faddr ht
    have ld0 : ∀ L, vload none L H1 (eptf 2 sv i 0) = some (.int .i64 (S.getD i default).x) := fun L => hs1.rd1 ht (by omega)
    have ld1 : ∀ L, vload none L H1 (eptf 2 sv i 1) = some (.int .i64 (S.getD i default).y) := fun L => hs1.rd1 ht (by omega)
    have hsq : sqOk w q S i = isSB w q (S.getD i default).x (S.getD i default).y := rfl
    generalize hse : S.getD i default = s at *
    simp (disch := omega) [f1, f2, f6, ad, fa0, fa1, ld0, ld1, hd.stor, hp.stor]
    refine ref_isSquare hd.stor hp.stor (by omega) (by omega) ?_
    rw [isSB_w, ← hsq]
    cases hq : sqOk w q S i with
    | false =>
      have := allN_not ht hq
      simp only [this, if_true] at hK
      simp
      exact hK _ x1
    | true =>
      simp (disch := omega) [f1, f2, f6, wrap_i64, allN, hok, hq]
      omega
  have hi2 : S.length = i := by omega
  subst hi2
  simp only [hok, Bool.true_eq_false, if_false] at hK
  simp [f1, f2]
  clear f6
  refine wLoop_up S.length (fun i fr L H' => (fr 1 = sv ∧ fr 7 = .int .i64 i) ∧ H' = H1 ∧ allN (newOk S) i = true) ⟨by simp [f1], rfl, rfl⟩ ?_
  clear f1 f2
  rintro i hi fr L H2 ⟨⟨f1, f7⟩, e2, hnw⟩
  have e2 := e2.symm
  subst e2
  simp [f1, f7, hs.len]
  refine cond_dec (fun ht => ?_) fun hfl => ?_
  · have ht : i < S.length := by omega
    have hmem : newOk S i = !decide (S.getD i default ∈ S.take i) := rfl
    simp [f1, f7]
    refine wLoop_up i (fun j fr L H' => (fr 1 = sv ∧ fr 7 = .int .i64 i ∧ fr 8 = .int .i64 j) ∧ H' = H1 ∧ S.getD i default ∉ S.take j) ⟨by simp [f1, f7], rfl, by simp⟩ ?_
    clear f1 f7
    rintro j hj fr L H2 ⟨⟨f1, f7, f8⟩, e2, hno⟩
    have e2 := e2.symm
    subst e2
    simp [f1, f7, f8]
    refine cond_dec (fun ht2 => ?_) fun hfl2 => ?_
    · have ht2 : j < i := by omega
      have hat := hs1.at ht
      have hld := fun (L : Lo) => hs1.load (L := L) ht
      have hat2 := hs1.at (i := j) (by omega)
      have hld2 := fun (L : Lo) => hs1.load (L := L) (i := j) (by omega)
      have htk := take_mem (S := S) (i := j) (by omega)
      have hji : S.getD j default ∈ S.take i := by
        rw [List.getD_eq_getElem?_getD, List.getElem?_eq_getElem (show j < S.length by omega)]
        exact List.mem_take_iff_getElem.2 ⟨j, by omega, rfl⟩
      generalize hse : S.getD i default = s at *
      generalize hsf : S.getD j default = t at *
      simp (disch := omega) [f1, f7, f8, hat, hld, hat2, hld2, plC, Pl.cells, veqA_2]
      by_cases e : s = t
      · subst e
        have := allN_not (f := newOk S) ht (by rw [hmem]; simp [hji])
        simp only [this, if_true] at hK
        simp
        exact hK _ x1
      · have e2 : ¬ (s.x = t.x ∧ s.y = t.y) := fun h => e (pl_eq.2 h)
        by_cases ex : s.x = t.x
        · have ey : ¬ s.y = t.y := fun h => e2 ⟨ex, h⟩
          simp (disch := omega) [f1, f7, f8, ex, ey, wrap_i64]
          refine ⟨by omega, ?_⟩
          rw [htk]; simp [hno, e]
        · simp (disch := omega) [f1, f7, f8, ex, wrap_i64]
          refine ⟨by omega, ?_⟩
          rw [htk]; simp [hno, e]
    · have hj2 : i = j := by omega
      subst hj2
      simp (disch := omega) [f1, f7, f8, wrap_i64, allN, hnw, hmem, hno]
      omega
  have hi2 : S.length = i := by omega
  subst hi2
  simp only [hnw, Bool.true_eq_false, if_false] at hK
  simp
  exact hK _ x1
end
end Go.Proofs.Ytjchpgkibhdoiaa.Vm
