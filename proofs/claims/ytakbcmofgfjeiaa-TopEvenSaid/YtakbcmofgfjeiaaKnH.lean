/- Laws of knot over the machine: IsSpread. -/
import Derived.Test.YtakbcmofgfjeiaaKnD
namespace Go.Proofs.Ytakbcmofgfjeiaa.Vm
open Go
set_option maxRecDepth 100000
set_option linter.unusedSimpArgs false
set_option linter.unusedVariables false
attribute [-simp] List.getD_eq_getElem?_getD

section
variable {lim : Nat} {H : Hp} {K : V → Hp → Prop}

theorem sum_bd {l : List Int} (h : wBad l = false) : 0 ≤ l.sum := by
  have := sum_take_bd h l.length (Nat.le_refl _)
  rw [List.take_length] at this
  exact this.1
theorem mem_bd {l : List Int} (h : wBad l = false) : ∀ x ∈ l, -1000000000000 ≤ x ∧ x ≤ 1000000000000 := by
  intro x hx
  obtain ⟨i, hi, rfl⟩ := List.mem_iff_getElem.1 hx
  have := wBad_bd h (i := i)
  rw [List.getD_eq_getElem?_getD, List.getElem?_eq_getElem hi] at this
  simp at this; omega

theorem ref_ValidWeights {v : V} {l : List Int} (hv : SlV H v l) (hK : K (.bool (decide (sumW l ≠ 0))) H) : VCall tbl lim 74 [v] H K := by
  refine VCall_fn tbl_at74 rfl ?_
  simp [vf74, hv.len]
  refine cond_bool (fun h1 => ?_) fun h1 => ?_
  · have e : sumW l = 0 := by
      by_cases h6 : 6 < l.length
      · simp [sumW, h6]
      · have : l = [] := List.eq_nil_of_length_eq_zero (by simp at h1; omega)
        subst this; simp [sumW]
    simp; simpa [e] using hK
  have h1' : ¬ 6 < l.length := by simp at h1; omega
  simp [hv.len]
  refine wLoop_up l.length (fun i fr L H' => (fr 0 = v ∧ fr 3 = .int .i64 i) ∧ L = [] ∧ H' = H ∧ wBad (l.take i) = false) ⟨by simp, rfl, rfl, by simp [wBad]⟩ ?_
  rintro i hi fr L H' ⟨⟨f0, f3⟩, rfl, rfl, hb⟩
  simp [f0, f3, hv.len]
  refine cond_dec (fun ht => ?_) fun hf => ?_
  · simp (disch := omega) [f0, f3, hv.addr, hv.load]
    have hs : wBad (l.take (i + 1)) = (decide (l.getD i 0 < 0) || decide (1000 < l.getD i 0)) := by
      rw [wBad, any_snoc ht]; rw [wBad] at hb; rw [hb]; rfl
    refine cond_bool (fun hz => ?_) fun hz => ?_
    · have : wBad l = true := any_at ht hz
      simp
      simpa [sumW, h1', this] using hK
    · rw [hz] at hs
      simp (disch := omega) [f0, f3, wrap_i64]
      exact ⟨by omega, hs⟩
  · have : i = l.length := by omega
    subst this
    rw [List.take_length] at hb
    simp [f0, f3, hv.stor]
    refine ref_sum hv (by omega) (mem_bd hb) ?_
    have hp := sum_bd hb
    have e : decide (sumW l ≠ 0) = decide (0 < l.sum) := by
      have : sumW l = l.sum := by simp [sumW, h1', hb]
      rw [this]; exact decide_eq_decide.2 ⟨fun h => by omega, fun h => by omega⟩
    rw [e] at hK
    simp
    exact hK

theorem ref_IsSpread {wv cv : V} {ws cs : List Int} (hw : SlV H wv ws) (hc : SlV H cv cs) (hlim : lim ≤ H.length) (hK : ∀ H', HX H H' → K (.tup [.int .i64 (isSpreadP ws cs).1, .bool (isSpreadP ws cs).2.1, .int .i64 (isSpreadP ws cs).2.2]) H') : VCall tbl lim 40 [wv, cv] H K := by
  refine VCall_fn tbl_at40 rfl ?_
  simp [vf40, hw.stor]
  refine ref_ValidWeights hw ?_
  by_cases h0 : sumW ws = 0
  · have := hK H .refl
    simp [h0]; simpa [isSpreadP, h0] using this
  obtain ⟨w1, w2, w3, w4, w5⟩ := sumW_pos h0
  have wb := fun i => wBad_bd w2 (i := i)
  simp [h0, hc.len]
  refine cond_dec (fun h1 => ?_) fun h1 => ?_
  · have h1' : 600 < cs.length := by omega
    have := hK H .refl
    simp; simpa [isSpreadP, h0, h1'] using this
  have h1' : ¬ 600 < cs.length := by omega
  generalize hW : sumW ws = W at *
  simp [hc.len]
  refine wLoop_up cs.length (fun i fr L H' => (fr 0 = wv ∧ fr 1 = cv ∧ fr 7 = .int .i64 i) ∧ L = [] ∧ H' = H ∧ colBad (cs.take i) ws.length = false) ⟨by simp, rfl, rfl, by simp [colBad]⟩ ?_
  rintro i hi fr L H' ⟨⟨f0, f1, f7⟩, rfl, rfl, hb⟩
  simp [f0, f1, f7, hc.len]
  refine cond_dec (fun ht => ?_) fun hf => ?_
  · simp (disch := omega) [f0, f1, f7, hc.addr, hc.load, hw.len]
    have hs : colBad (cs.take (i + 1)) ws.length = (decide (cs.getD i 0 < 0) || decide ((ws.length : Int) ≤ cs.getD i 0)) := by
      rw [colBad, any_snoc ht]; rw [colBad] at hb; rw [hb]; rfl
    refine cond_bool (fun hz => ?_) fun hz => ?_
    · have hcb : colBad cs ws.length = true := any_at ht hz
      have := hK H' .refl
      simp; simpa [isSpreadP, hW, h0, h1', hcb] using this
    · rw [hz] at hs
      simp (disch := omega) [f0, f1, f7, wrap_i64]
      exact ⟨by omega, hs⟩
  · have hil : i = cs.length := by omega
    subst hil
    rw [List.take_length] at hb
    have hcol : ∀ j, j < cs.length → 0 ≤ cs.getD j 0 ∧ cs.getD j 0 < ws.length := by
      intro j hj
      have := not_any_at hb hj
      simp at this; omega
    simp (disch := omega) [f0, f1, f7, hw.len, hc.len, hw.stor]
    refine ref_sum hw (by omega) (mem_bd w2) ?_
    rw [← w3]
    simp (disch := omega) [f0, f1, f7, hw.len, hc.len, hw.stor]
    have hres : ∀ x b, spr ws W cs cs.length 0 = (x, b) → ∀ H2, HX H' H2 → K (.tup [.int .i64 x, .bool b, .int .i64 0]) H2 := by
      intro x b e H2 hx
      have := hK H2 hx
      simpa [isSpreadP, hW, h0, h1', hb, e] using this
    refine wLoop_up cs.length (fun i fr L H2 => (fr 0 = wv ∧ fr 1 = cv ∧ fr 8 = .int .i64 W ∧ fr 9 = .sl H'.length 0 ws.length 1 ∧ fr 10 = .int .i64 ((i : Int) + 1)) ∧ L = [] ∧ HX H' H2 ∧ OwnV H'.length H2 (.sl H'.length 0 ws.length 1) ((List.range ws.length).map fun c => cN cs c i) ∧ spr ws W cs cs.length 0 = spr ws W cs (cs.length - i) i) ⟨by simp [f0, f1, f7], rfl, .push, ?_, rfl⟩ ?_
    · have e : ((List.range ws.length).map fun c => cN cs c 0) = zs ws.length := by
        refine ext_getD (by simp) fun k hk => ?_
        rw [getD_map_range (by simpa using hk), zs_getD]; rfl
      rw [e]
      have := OwnV.new (n := H'.length) (H := H') (l := zs ws.length) (Nat.le_refl _)
      simpa using this
    clear hi f0 f1 f7
    rintro i hi fr L H2 ⟨⟨f0, f1, f8, f9, f10⟩, rfl, hx, hv, hsp⟩
    have hc2 := hc.mono hx
    simp [f0, f1, f8, f9, f10, hc2.len]
    refine cond_dec (fun ht => ?_) fun hf => ?_
    · have ht : i < cs.length := by omega
      have hci := hcol i ht
      obtain ⟨x, hxc⟩ : ∃ x : Nat, cs.getD i 0 = x := ⟨(cs.getD i 0).toNat, by omega⟩
      have hxl : x < ws.length := by omega
      have ha := hv.sl.addr (i := (x : Int)) (by simp; omega)
      have hld := fun L => hv.sl.load (i := x) (by simp; omega) (L := L)
      rw [getD_map_range hxl] at hld
      have hst := fun L => hv.store (lim := lim) (i := x) (x := cN cs x i + 1) (L := L) ⟨hlim, by simp; omega⟩
      have hput := hv.put (l' := ((List.range ws.length).map fun c => cN cs c i).set x (cN cs x i + 1)) (by simp)
      have hX := setH_X (cs := ints (((List.range ws.length).map fun c => cN cs c i).set x (cN cs x i + 1))) hx hv (Nat.le_refl _)
      have e2 : ((List.range ws.length).map fun c => cN cs c i).set x (cN cs x i + 1) = (List.range ws.length).map fun c => cN cs c (i + 1) := by
        rw [map_range_set hxl]
        refine List.map_congr_left fun k _ => ?_
        simp only [cN]
        by_cases c : k = x
        · subst c; rw [if_pos rfl, if_pos hxc]
        · rw [if_neg c, if_neg (by omega)]; omega
      rw [e2] at hst hput hX
      have bx := cN_bd (cs := cs) (c := x) i
      simp only [Int.toNat_natCast] at ha
      have w1' := wrap_i64 (n := (i : Int) + 1 - 1) (by omega) (by omega)
      have w2' : (i : Int) + 1 - 1 = i := by omega
      rw [w2'] at w1'
      simp (disch := omega) [f0, f1, f8, f9, f10, hc2.addr, hc2.load, hxc, ha, hld, hst, wrap_i64, w1', w2', hw.len, -vstore]
      generalize hH3 : setH H2 (V.sl (List.length H') 0 ws.length 1) (ints (List.map (fun c => cN cs c (i + 1)) (List.range ws.length))) = H3 at *
      have hw3 := hw.mono hX
      have hc3 := hc.mono hX
      refine wLoop_up ws.length (fun c fr L H4 => (fr 0 = wv ∧ fr 1 = cv ∧ fr 8 = .int .i64 W ∧ fr 9 = .sl H'.length 0 ws.length 1 ∧ fr 10 = .int .i64 ((i : Int) + 1) ∧ fr 11 = .int .i64 c) ∧ L = [] ∧ H4 = H3 ∧ badC ws W cs (i + 1) c = false) ⟨by simp [f0, f1, f8, f9, f10], rfl, rfl, rfl⟩ ?_
      clear f0 f1 f8 f9 f10 ha hld hst
      rintro c hcl fr L H4 ⟨⟨f0, f1, f8, f9, f10, f11⟩, rfl, rfl, hbc⟩
      simp [f0, f1, f8, f9, f10, f11, hw3.len]
      refine cond_dec (fun ht2 => ?_) fun hf2 => ?_
      · have ha := hput.sl.addr (i := (c : Int)) (by simp; omega)
        have hld := fun L => hput.sl.load (i := c) (by simp; omega) (L := L)
        rw [getD_map_range ht2] at hld
        simp only [Int.toNat_natCast] at ha
        have bc := cN_bd (cs := cs) (c := c) (i + 1)
        have q1 := mul_bd (a := cN cs c (i + 1)) (b := W) (A := 600) (B := 6000) (by omega) (by omega)
        have q2 := mul_bd (a := (i : Int) + 1) (b := ws.getD c 0) (A := 600) (B := 1000) (by omega) (by have := wb c; omega)
        have efar : far ws W cs (i + 1) c = cN cs c (i + 1) * W - ((i : Int) + 1) * ws.getD c 0 := by simp only [far]; push_cast; rfl
        have hnext : badC ws W cs (i + 1) (c + 1) = decide (W ≤ max (far ws W cs (i + 1) c) (- far ws W cs (i + 1) c)) := by simp only [badC, hbc, Bool.false_or]
        simp (disch := omega) [f0, f1, f8, f9, f10, f11, hw3.addr, hw3.load, ha, hld, wrap_i64]
        rw [← efar]
        generalize far ws W cs (i + 1) c = F at *
        refine cond_bool (fun hz => ?_) fun hz => ?_
        · have hz' : W ≤ max F (-F) := by simp at hz; omega
          simp (disch := omega) [f10, wrap_i64]
          refine hres _ _ ?_ _ hX
          rw [hsp]
          obtain ⟨m, hm⟩ : ∃ m, cs.length - i = m + 1 := ⟨cs.length - i - 1, by omega⟩
          rw [hm, spr, if_pos]
          exact badC_mono (a := c + 1) (by rw [hnext]; exact decide_eq_true hz') (by omega)
        · have hz' : ¬ W ≤ max F (-F) := by simp at hz; omega
          simp (disch := omega) [f0, f1, f8, f9, f10, f11, wrap_i64]
          exact ⟨by omega, by rw [hnext]; exact decide_eq_false hz'⟩
      · have hce : c = ws.length := by omega
        subst hce
        simp (disch := omega) [f0, f1, f8, f9, f10, f11, wrap_i64]
        refine ⟨by omega, hX, hput, ?_⟩
        rw [hsp]
        obtain ⟨m, hm⟩ : ∃ m, cs.length - i = m + 1 := ⟨cs.length - i - 1, by omega⟩
        rw [hm, spr, if_neg (by simp [hbc])]
        congr 1; omega
    · have hie : i = cs.length := by omega
      subst hie
      simp
      refine hres _ _ ?_ _ hx
      rw [hsp, Nat.sub_self]; rfl

theorem law_KnotIsSpread {wv cv : V} {ws cs : List Int} (hw : SlV H wv ws) (hc : SlV H cv cs) (hlim : lim ≤ H.length) (hK : ∀ H', K (.bool true) H') :
    VCall tbl lim 13 [wv, cv] H K := by
  refine VCall_fn tbl_at13 rfl ?_
  simp [vf13, hw.len, hc.len]
  refine cond_bool (fun ht => ?_) fun hf => ?_
  · simp
    refine law_known hlim fun H2 _ => ?_
    simp
    exact hK _
  simp [hw.stor, hc.stor]
  refine knot_IsSpread hw hc hlim fun H1 x1 => ?_
  replace x1 : HX H H1 := x1
  have l1 := x1.len
  simp [hw.stor, hc.stor]
  refine ref_IsSpread (hw.mono x1) (hc.mono x1) (show lim ≤ H1.length by omega) fun H2 x2 => ?_
  replace x2 : HX H1 H2 := x2
  have l2 := x2.len
  simp
  refine law_known (show lim ≤ H2.length by omega) fun H3 _ => ?_
  simp
  exact hK _
end
end Go.Proofs.Ytakbcmofgfjeiaa.Vm
