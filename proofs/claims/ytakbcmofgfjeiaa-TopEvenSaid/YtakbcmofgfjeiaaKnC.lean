/- Package knot over the machine: weights, spread rows that are looked at, what the laws know. -/
import Derived.Test.YtakbcmofgfjeiaaKnB
namespace Go.Proofs.Ytakbcmofgfjeiaa.Vm
open Go
set_option maxRecDepth 100000
set_option linter.unusedSimpArgs false
set_option linter.unusedVariables false
attribute [-simp] List.getD_eq_getElem?_getD

def wBad (l : List Int) : Bool := l.any fun x => decide (x < 0) || decide (1000 < x)
def sumW (l : List Int) : Int := if 6 < l.length then 0 else if wBad l then 0 else l.sum
theorem any_snoc {p : Int → Bool} {l : List Int} {i : Nat} (h : i < l.length) : (l.take (i + 1)).any p = ((l.take i).any p || p (l.getD i 0)) := by
  rw [take_snoc h, List.any_append]; simp
theorem any_at {p : Int → Bool} {l : List Int} {i : Nat} (h : i < l.length) (hp : p (l.getD i 0) = true) : l.any p = true := by
  rw [List.any_eq_true]
  exact ⟨l[i], List.getElem_mem h, by rw [List.getD_eq_getElem?_getD, List.getElem?_eq_getElem h] at hp; exact hp⟩
theorem not_any_at {p : Int → Bool} {l : List Int} (hn : l.any p = false) {i : Nat} (h : i < l.length) : p (l.getD i 0) = false := by
  cases hp : p (l.getD i 0) with
  | false => rfl
  | true => rw [any_at h hp] at hn; cases hn
theorem sum_snoc {l : List Int} {i : Nat} (h : i < l.length) : (l.take (i + 1)).sum = (l.take i).sum + l.getD i 0 := by rw [take_snoc h, List.sum_append]; simp

/-- how many of the first i are c -/
def cN (cs : List Int) (c : Nat) : Nat → Int
  | 0 => 0
  | i + 1 => cN cs c i + if cs.getD i 0 = (c : Int) then 1 else 0
theorem cN_bd {cs : List Int} {c : Nat} : ∀ i : Nat, 0 ≤ cN cs c i ∧ cN cs c i ≤ i
  | 0 => by simp [cN]
  | i + 1 => by
    have := cN_bd (cs := cs) (c := c) i
    simp only [cN]; split <;> omega
def far (ws : List Int) (W : Int) (cs : List Int) (k c : Nat) : Int := cN cs c k * W - k * ws.getD c 0
def badC (ws : List Int) (W : Int) (cs : List Int) (k : Nat) : Nat → Bool
  | 0 => false
  | c + 1 => badC ws W cs k c || decide (W ≤ max (far ws W cs k c) (- far ws W cs k c))
theorem badC_mono {ws : List Int} {W : Int} {cs : List Int} {k a : Nat} (h : badC ws W cs k a = true) : ∀ {b : Nat}, a ≤ b → badC ws W cs k b = true
  | 0, hb => by have : a = 0 := by omega
                subst this; exact h
  | b + 1, hb => by
    by_cases e : a = b + 1
    · subst e; exact h
    · simp only [badC, badC_mono h (b := b) (by omega), Bool.true_or]
/-- where the row ceases to be one: fuel, place -/
def spr (ws : List Int) (W : Int) (cs : List Int) : Nat → Nat → Int × Bool
  | 0, _ => (0, true)
  | f + 1, i => if badC ws W cs (i + 1) ws.length then ((i : Int) + 1, false) else spr ws W cs f (i + 1)
def colBad (cs : List Int) (n : Nat) : Bool := cs.any fun x => decide (x < 0) || decide ((n : Int) ≤ x)
def isSpreadP (ws cs : List Int) : Int × Bool × Int :=
  if sumW ws = 0 then (0, false, 1) else if 600 < cs.length then (0, false, 4) else if colBad cs ws.length then (0, false, 1) else ((spr ws (sumW ws) cs cs.length 0).1, (spr ws (sumW ws) cs cs.length 0).2, 0)

theorem wBad_bd {l : List Int} (h : wBad l = false) {i : Nat} : 0 ≤ l.getD i 0 ∧ l.getD i 0 ≤ 1000 := by
  by_cases hi : i < l.length
  · have := not_any_at h hi
    simp at this; omega
  · rw [getD_big (by omega)]; omega
theorem sum_take_bd {l : List Int} (h : wBad l = false) : ∀ i : Nat, i ≤ l.length → 0 ≤ (l.take i).sum ∧ (l.take i).sum ≤ i * 1000
  | 0, _ => by simp
  | i + 1, hi => by
    have a := sum_take_bd h i (by omega)
    have b := wBad_bd h (i := i)
    rw [sum_snoc (by omega)]; omega
theorem sumW_pos {l : List Int} (h : sumW l ≠ 0) : l.length ≤ 6 ∧ wBad l = false ∧ sumW l = l.sum ∧ 1 ≤ sumW l ∧ sumW l ≤ 6000 := by
  unfold sumW at h ⊢
  split at h
  · exact absurd rfl h
  rename_i h1
  split at h
  · exact absurd rfl h
  rename_i h2
  have h2 : wBad l = false := by simpa using h2
  have := sum_take_bd h2 l.length (Nat.le_refl _)
  rw [List.take_length] at this
  rw [if_neg h1, if_neg (by simp [h2])]
  exact ⟨by omega, h2, rfl, by omega, by omega⟩

section
variable {lim : Nat} {H : Hp} {K : V → Hp → Prop}

theorem knot_sumOfWeights {v : V} {l : List Int} (hv : SlV H v l) (hK : K (.int .i64 (sumW l)) H) : VCall tbl lim 73 [v] H K := by
  refine VCall_fn tbl_at73 rfl ?_
  have hlen : (6 < (l.length : Int)) ↔ 6 < l.length := by omega
  simp [vf73, hv.len]
  refine cond_dec (fun h1 => ?_) fun h1 => ?_
  · simp; simpa [sumW, hlen.1 h1] using hK
  have h1' : ¬ 6 < l.length := by omega
  simp [hv.len]
  refine wLoop_up l.length (fun i fr L H' => (fr 0 = v ∧ fr 3 = .int .i64 (l.take i).sum ∧ fr 9 = v ∧ fr 10 = .int .i64 l.length ∧ fr 11 = .int .i64 i) ∧ L = [] ∧ H' = H ∧ wBad (l.take i) = false ∧ 0 ≤ (l.take i).sum ∧ (l.take i).sum ≤ i * 1000) ⟨by simp, rfl, rfl, by simp [wBad], by simp, by simp⟩ ?_
  rintro i hi fr L H' ⟨⟨f0, f3, f9, f10, f11⟩, rfl, rfl, hb, b1, b2⟩
  simp [f0, f3, f9, f10, f11]
  refine cond_dec (fun ht => ?_) fun hf => ?_
  · simp (disch := omega) [f0, f3, f9, f10, f11, hv.addr, hv.load]
    have hs : wBad (l.take (i + 1)) = (decide (l.getD i 0 < 0) || decide (1000 < l.getD i 0)) := by
      rw [wBad, any_snoc ht]; rw [wBad] at hb; rw [hb]; rfl
    refine cond_bool (fun hz => ?_) fun hz => ?_
    · have : wBad l = true := any_at ht hz
      simp
      simpa [sumW, h1', this] using hK
    · rw [hz] at hs
      have hz' : ¬ l.getD i 0 < 0 ∧ ¬ 1000 < l.getD i 0 := by simp at hz; omega
      simp (disch := omega) [f0, f3, f9, f10, f11, wrap_i64]
      rw [sum_snoc ht]
      exact ⟨by omega, rfl, hs, by omega, by omega⟩
  · have : i = l.length := by omega
    subst this
    rw [List.take_length] at f3 hb
    simp [f3]
    simpa [sumW, h1', hb] using hK

theorem knot_IsSpread {wv cv : V} {ws cs : List Int} (hw : SlV H wv ws) (hc : SlV H cv cs) (hlim : lim ≤ H.length) (hK : ∀ H', HX H H' → K (.tup [.int .i64 (isSpreadP ws cs).1, .bool (isSpreadP ws cs).2.1, .int .i64 (isSpreadP ws cs).2.2]) H') : VCall tbl lim 41 [wv, cv] H K := by
  refine VCall_fn tbl_at41 rfl ?_
  simp [vf41, hw.stor]
  refine knot_sumOfWeights hw ?_
  simp
  refine cond_dec (fun h0 => ?_) fun h0 => ?_
  · have := hK H .refl
    simp; simpa [isSpreadP, h0] using this
  obtain ⟨w1, w2, w3, w4, w5⟩ := sumW_pos h0
  have wb := fun i => wBad_bd w2 (i := i)
  simp [hc.len]
  refine cond_dec (fun h1 => ?_) fun h1 => ?_
  · have h1' : 600 < cs.length := by omega
    have := hK H .refl
    simp; simpa [isSpreadP, h0, h1'] using this
  have h1' : ¬ 600 < cs.length := by omega
  generalize hW : sumW ws = W at *
  simp [hc.len]
  refine wLoop_up cs.length (fun i fr L H' => (fr 0 = wv ∧ fr 1 = cv ∧ fr 7 = .int .i64 W ∧ fr 23 = cv ∧ fr 24 = .int .i64 cs.length ∧ fr 25 = .int .i64 i) ∧ L = [] ∧ H' = H ∧ colBad (cs.take i) ws.length = false) ⟨by simp, rfl, rfl, by simp [colBad]⟩ ?_
  rintro i hi fr L H' ⟨⟨f0, f1, f7, f23, f24, f25⟩, rfl, rfl, hb⟩
  simp [f0, f1, f7, f23, f24, f25]
  refine cond_dec (fun ht => ?_) fun hf => ?_
  · simp (disch := omega) [f0, f1, f7, f23, f24, f25, hc.addr, hc.load, hw.len]
    have hs : colBad (cs.take (i + 1)) ws.length = (decide (cs.getD i 0 < 0) || decide ((ws.length : Int) ≤ cs.getD i 0)) := by
      rw [colBad, any_snoc ht]; rw [colBad] at hb; rw [hb]; rfl
    refine cond_bool (fun hz => ?_) fun hz => ?_
    · have hcb : colBad cs ws.length = true := any_at ht hz
      have := hK H' .refl
      simp; simpa [isSpreadP, hW, h0, h1', hcb] using this
    · rw [hz] at hs
      simp (disch := omega) [f0, f1, f7, f23, f24, f25, wrap_i64]
      exact ⟨by omega, hs⟩
  · have hil : i = cs.length := by omega
    subst hil
    rw [List.take_length] at hb
    have hcol : ∀ j, j < cs.length → 0 ≤ cs.getD j 0 ∧ cs.getD j 0 < ws.length := by
      intro j hj
      have := not_any_at hb hj
      simp at this; omega
    simp (disch := omega) [f0, f1, f7, hw.len, hc.len]
    have hres : ∀ x b, spr ws W cs cs.length 0 = (x, b) → ∀ H2, HX H' H2 → K (.tup [.int .i64 x, .bool b, .int .i64 0]) H2 := by
      intro x b e H2 hx
      have := hK H2 hx
      simpa [isSpreadP, hW, h0, h1', hb, e] using this
    refine wLoop_up cs.length (fun i fr L H2 => (fr 0 = wv ∧ fr 1 = cv ∧ fr 7 = .int .i64 W ∧ fr 10 = .sl H'.length 0 ws.length 1 ∧ fr 41 = cv ∧ fr 42 = .int .i64 cs.length ∧ fr 43 = .int .i64 i) ∧ L = [] ∧ HX H' H2 ∧ OwnV H'.length H2 (.sl H'.length 0 ws.length 1) ((List.range ws.length).map fun c => cN cs c i) ∧ spr ws W cs cs.length 0 = spr ws W cs (cs.length - i) i) ⟨by simp [f0, f1, f7], rfl, .push, ?_, rfl⟩ ?_
    · have e : ((List.range ws.length).map fun c => cN cs c 0) = zs ws.length := by
        refine ext_getD (by simp) fun k hk => ?_
        rw [getD_map_range (by simpa using hk), zs_getD]; rfl
      rw [e]
      have := OwnV.new (n := H'.length) (H := H') (l := zs ws.length) (Nat.le_refl _)
      simpa using this
    clear hi f0 f1 f7 f23 f24 f25
    rintro i hi fr L H2 ⟨⟨f0, f1, f7, f10, f41, f42, f43⟩, rfl, hx, hv, hsp⟩
    simp [f0, f1, f7, f10, f41, f42, f43]
    refine cond_dec (fun ht => ?_) fun hf => ?_
    · have hci := hcol i ht
      obtain ⟨x, hxc⟩ : ∃ x : Nat, cs.getD i 0 = x := ⟨(cs.getD i 0).toNat, by omega⟩
      have hxl : x < ws.length := by omega
      have hc2 := hc.mono hx
      have ha := hv.sl.addr (i := (x : Int)) (by simp; omega)
      have hld := fun L => hv.sl.load (i := x) (by simp; omega) (L := L)
      rw [getD_map_range hxl] at hld
      have hst := fun L => hv.store (lim := lim) (i := x) (x := cN cs x i + 1) (L := L) ⟨hlim, by simp; omega⟩
      have hput := hv.put (l' := ((List.range ws.length).map fun c => cN cs c i).set x (cN cs x i + 1)) (by simp)
      have hX := setH_X (cs := ints (((List.range ws.length).map fun c => cN cs c i).set x (cN cs x i + 1))) hx hv (Nat.le_refl _)
      have e2 : ((List.range ws.length).map fun c => cN cs c i).set x (cN cs x i + 1) = (List.range ws.length).map fun c => cN cs c (i + 1) := by
        rw [map_range_set hxl]
        refine List.map_congr_left fun k _ => ?_
        simp only [cN]
        by_cases c : k = x
        · subst c; rw [if_pos rfl, if_pos hxc]
        · rw [if_neg c, if_neg (by omega)]; omega
      rw [e2] at hst hput hX
      have bx := cN_bd (cs := cs) (c := x) i
      simp only [Int.toNat_natCast] at ha
      simp (disch := omega) [f0, f1, f7, f10, f41, f42, f43, hc2.addr, hc2.load, hxc, ha, hld, hst, wrap_i64, hw.len, -vstore]
      generalize hH3 : setH H2 (V.sl (List.length H') 0 ws.length 1) (ints (List.map (fun c => cN cs c (i + 1)) (List.range ws.length))) = H3 at *
      have hw3 := hw.mono hX
      have hc3 := hc.mono hX
      refine wLoop_up ws.length (fun c fr L H4 => (fr 0 = wv ∧ fr 1 = cv ∧ fr 7 = .int .i64 W ∧ fr 10 = .sl H'.length 0 ws.length 1 ∧ fr 11 = .int .i64 i ∧ fr 41 = cv ∧ fr 42 = .int .i64 cs.length ∧ fr 43 = .int .i64 i ∧ fr 54 = wv ∧ fr 55 = .int .i64 ws.length ∧ fr 56 = .int .i64 c) ∧ L = [] ∧ H4 = H3 ∧ badC ws W cs (i + 1) c = false) ⟨by simp [f0, f1, f7, f10, f41, f42, f43], rfl, rfl, rfl⟩ ?_
      clear f0 f1 f7 f10 f41 f42 f43 ha hld hst
      rintro c hcl fr L H4 ⟨⟨f0, f1, f7, f10, f11, f41, f42, f43, f54, f55, f56⟩, rfl, rfl, hbc⟩
      simp [f0, f1, f7, f10, f11, f41, f42, f43, f54, f55, f56]
      refine cond_dec (fun ht2 => ?_) fun hf2 => ?_
      · have ha := hput.sl.addr (i := (c : Int)) (by simp; omega)
        have hld := fun L => hput.sl.load (i := c) (by simp; omega) (L := L)
        rw [getD_map_range ht2] at hld
        simp only [Int.toNat_natCast] at ha
        have bc := cN_bd (cs := cs) (c := c) (i + 1)
        have q1 := mul_bd (a := cN cs c (i + 1)) (b := W) (A := 600) (B := 6000) (by omega) (by omega)
        have q2 := mul_bd (a := (i : Int) + 1) (b := ws.getD c 0) (A := 600) (B := 1000) (by omega) (by have := wb c; omega)
        have efar : far ws W cs (i + 1) c = cN cs c (i + 1) * W - ((i : Int) + 1) * ws.getD c 0 := by simp only [far]; push_cast; rfl
        have hnext : badC ws W cs (i + 1) (c + 1) = decide (W ≤ max (far ws W cs (i + 1) c) (- far ws W cs (i + 1) c)) := by simp only [badC, hbc, Bool.false_or]
        simp (disch := omega) [f0, f1, f7, f10, f11, f41, f42, f43, f54, f55, f56, hw3.addr, hw3.load, ha, hld, wrap_i64]
        rw [← efar]
        refine cond_dec (fun hz => ?_) fun hz => ?_
        · simp (disch := omega) [f11, wrap_i64]
          refine hres _ _ ?_ _ hX
          rw [hsp]
          obtain ⟨m, hm⟩ : ∃ m, cs.length - i = m + 1 := ⟨cs.length - i - 1, by omega⟩
          rw [hm, spr, if_pos]
          exact badC_mono (a := c + 1) (by rw [hnext]; exact decide_eq_true hz) (by omega)
        · simp (disch := omega) [f0, f1, f7, f10, f11, f41, f42, f43, f54, f55, f56, wrap_i64]
          exact ⟨by omega, by rw [hnext]; exact decide_eq_false hz⟩
      · have hce : c = ws.length := by omega
        subst hce
        simp (disch := omega) [f0, f1, f7, f10, f11, f41, f42, f43, f54, f55, f56, wrap_i64]
        refine ⟨by omega, hX, hput, ?_⟩
        rw [hsp]
        obtain ⟨m, hm⟩ : ∃ m, cs.length - i = m + 1 := ⟨cs.length - i - 1, by omega⟩
        rw [hm, spr, if_neg (by simp [hbc])]
        congr 1; omega
    · have hie : i = cs.length := by omega
      subst hie
      simp
      refine hres _ _ ?_ _ hx
      rw [hsp, Nat.sub_self]; rfl
end
end Go.Proofs.Ytakbcmofgfjeiaa.Vm
