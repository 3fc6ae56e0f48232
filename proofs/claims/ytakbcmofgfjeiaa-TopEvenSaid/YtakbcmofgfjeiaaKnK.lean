/- Laws of knot over the machine: Balanced. -/
import Derived.Test.YtakbcmofgfjeiaaKnJ
import Derived.Test.YtakbcmofgfjeiaaKnF
namespace Go.Proofs.Ytakbcmofgfjeiaa.Vm
open Go
set_option maxRecDepth 100000
set_option linter.unusedSimpArgs false
set_option linter.unusedVariables false
attribute [-simp] List.getD_eq_getElem?_getD

def gap (l : List Int) (w : Nat) : Int := hiW l w (l.length - w + 1) - loW l w (l.length - w + 1)
def balB (l : List Int) : Bool := (List.range l.length).all fun i => decide (gap l (i + 1) ≤ 1)
def balP (l : List Int) : Bool × Int := (if rowErr l ≠ 0 then false else balB l, rowErr l)
theorem loW_at {l : List Int} {w : Nat} : ∀ k, ∃ i, i ≤ k - 1 ∧ loW l w k = win l w i
  | 0 => ⟨0, by omega, rfl⟩
  | k + 1 => by
    obtain ⟨i, hi, e⟩ := loW_at (l := l) (w := w) k
    simp only [loW]
    by_cases h : loW l w k ≤ win l w k
    · exact ⟨i, by omega, by omega⟩
    · exact ⟨k, by omega, by omega⟩
theorem loW_le {l : List Int} {w i : Nat} : ∀ k, i < k → loW l w k ≤ win l w i
  | 0, h => by omega
  | k + 1, h => by
    simp only [loW]
    by_cases e : i = k
    · subst e; omega
    · have := loW_le (l := l) (w := w) k (show i < k by omega); omega
theorem hiW_ge {l : List Int} {w i : Nat} : ∀ k, i < k → win l w i ≤ hiW l w k
  | 0, h => by omega
  | k + 1, h => by
    simp only [hiW]
    by_cases e : i = k
    · subst e; omega
    · have := hiW_ge (l := l) (w := w) k (show i < k by omega); omega
theorem loW_bd {l : List Int} (h : rowErr l = 0) {w k : Nat} : 0 ≤ loW l w k ∧ loW l w k ≤ 200000000 := by
  obtain ⟨i, _, e⟩ := loW_at (l := l) (w := w) k
  rw [e]; exact win_bd h
theorem hiW_bd {l : List Int} (h : rowErr l = 0) {w k : Nat} : 0 ≤ hiW l w k ∧ hiW l w k ≤ 200000000 := by
  rw [hiW_arg]; exact win_bd h
theorem balB_iff {l : List Int} : balB l = true ↔ ∀ w i j, 1 ≤ w → i + w ≤ l.length → j + w ≤ l.length → win l w i - win l w j ≤ 1 := by
  rw [balB, List.all_eq_true]
  constructor
  · intro h w i j hw hi hj
    have := h (w - 1) (by simp; omega)
    have e : w - 1 + 1 = w := by omega
    rw [e] at this
    have this : gap l w ≤ 1 := by simpa using this
    have a := hiW_ge (l := l) (w := w) (i := i) (l.length - w + 1) (by omega)
    have b := loW_le (l := l) (w := w) (i := j) (l.length - w + 1) (by omega)
    simp only [gap] at this; omega
  · intro h x hx
    have hx : x < l.length := by simpa using hx
    obtain ⟨j, hj, ej⟩ := loW_at (l := l) (w := x + 1) (l.length - (x + 1) + 1)
    have hi := argW_le (l := l) (w := x + 1) (k := l.length - (x + 1) + 1)
    have := h (x + 1) (argW l (x + 1) (l.length - (x + 1) + 1)) j (by omega) (by omega) (by omega)
    rw [← hiW_arg, ← ej] at this
    exact decide_eq_true (show gap l (x + 1) ≤ 1 from this)
theorem win_rev {l : List Int} {w i : Nat} (h : i + w ≤ l.length) : win l.reverse w i = win l w (l.length - w - i) := by
  have e1 : wnd l.reverse w i = (wnd l w (l.length - w - i)).reverse := by
    simp only [wnd]
    rw [List.drop_reverse, List.take_reverse, List.drop_take]
    congr 1
    simp
    have a : l.length - i - (l.length - i - w) = w := by omega
    have b : l.length - i - w = l.length - w - i := by omega
    rw [a, b]
  simp only [win, e1, List.sum_reverse]
theorem rowErr_rev {l : List Int} : rowErr l.reverse = rowErr l := by simp [rowErr, rBad]
theorem balB_rev {l : List Int} : balB l.reverse = balB l := by
  rw [Bool.eq_iff_iff, balB_iff, balB_iff]
  constructor
  · intro h w i j hw hi hj
    have := h w (l.length - w - i) (l.length - w - j) hw (by simp; omega) (by simp; omega)
    rw [win_rev (by omega), win_rev (by omega)] at this
    have a : l.length - w - (l.length - w - i) = i := by omega
    have b : l.length - w - (l.length - w - j) = j := by omega
    rwa [a, b] at this
  · intro h w i j hw hi hj
    simp at hi hj
    rw [win_rev hi, win_rev hj]
    exact h w _ _ hw (by omega) (by omega)
theorem balP_rev {l : List Int} : balP l.reverse = balP l := by simp only [balP, rowErr_rev, balB_rev]
theorem balB_no {l : List Int} {i : Nat} (h : i < l.length) (hg : 1 < gap l (i + 1)) : balB l = false := by
  rw [balB, List.all_eq_false]
  exact ⟨i, by simpa using h, by simp; omega⟩
def balT (l : List Int) (i : Nat) : Bool := (List.range i).all fun i => decide (gap l (i + 1) ≤ 1)
theorem balT_succ {l : List Int} {i : Nat} (h : balT l i = true) (hg : ¬ 1 < gap l (i + 1)) : balT l (i + 1) = true := by
  rw [balT, List.range_succ, List.all_append]
  rw [balT] at h
  rw [h]; simp; omega

section
variable {lim : Nat} {H : Hp} {K : V → Hp → Prop}

theorem knot_Balanced {v : V} {l : List Int} (hv : SlV H v l) (hlim : lim ≤ H.length)
    (hK : ∀ H', HX H H' → K (.tup [.bool (balP l).1, .int .i64 (balP l).2]) H') : VCall tbl lim 29 [v] H K := by
  refine VCall_fn tbl_at29 rfl ?_
  simp [vf29, hv.stor]
  refine knot_validateRow hv ?_
  simp
  by_cases hr : rowErr l ≠ 0
  · have := hK H .refl
    simp [hr]; simpa [balP, hr] using this
  replace hr := Decidable.not_not.1 hr
  have hl := (rowOk hr).1
  have hT : ∀ b, balB l = b → ∀ H', HX H H' → K (.tup [.bool b, .int .i64 0]) H' := by
    intro b e H' hx
    have := hK H' hx
    simpa [balP, hr, e] using this
  simp [hr, hv.len]
  refine wLoop_up l.length (fun i fr L H' => (fr 0 = v ∧ fr 17 = .int .i64 l.length ∧ fr 18 = .int .i64 i) ∧ L = [] ∧ HX H H' ∧ balT l i = true) ⟨by simp, rfl, .refl, rfl⟩ ?_
  rintro i hi fr L H' ⟨⟨f0, f17, f18⟩, rfl, hx, hb⟩
  have hxl := hx.len
  have hv1 := hv.mono hx
  simp [f0, f17, f18]
  refine cond_dec (fun ht => ?_) fun hf => ?_
  · simp (disch := omega) [f0, f17, f18, wrap_i64, hv1.stor]
    refine knot_sums (w := i + 1) hv1 hr (by omega) (by omega) fun H1 u x1 o1 => ?_
    replace x1 : HX H' H1 := x1
    have hn : ((List.range (l.length - (i + 1) + 1)).map (win l (i + 1))).length = l.length - (i + 1) + 1 := by simp
    have ol := o1.sl.len
    rw [hn] at ol
    have g : ∀ k, k < l.length - (i + 1) + 1 → ((List.range (l.length - (i + 1) + 1)).map (win l (i + 1))).getD k 0 = win l (i + 1) k := fun k hk => getD_map_range hk
    have gp : gap l (i + 1) = hiW l (i + 1) (l.length - (i + 1) + 1) - loW l (i + 1) (l.length - (i + 1) + 1) := rfl
    have b1 := loW_bd hr (w := i + 1) (k := l.length - (i + 1) + 1)
    have b2 := hiW_bd hr (w := i + 1) (k := l.length - (i + 1) + 1)
    have hN1 : 1 ≤ l.length - (i + 1) + 1 := by omega
    have hN2 : l.length - (i + 1) + 1 ≤ 200 := by omega
    generalize l.length - (i + 1) + 1 = N at *
    generalize (List.range N).map (win l (i + 1)) = sl at *
    have g0 := fun L => o1.sl.load (i := 0) (L := L) (by omega)
    have gA := o1.sl.addr (i := 0) (by omega)
    simp only [Int.toNat_zero] at gA
    rw [g _ (by omega)] at g0
    simp [o1.sl.stor, ol, gA, g0]
    refine wLoop_up N (fun j fr L H2 => (fr 0 = v ∧ fr 7 = .int .i64 (loW l (i + 1) j) ∧ fr 8 = .int .i64 (hiW l (i + 1) j) ∧ fr 17 = .int .i64 l.length ∧ fr 18 = .int .i64 i ∧ fr 31 = u ∧ fr 32 = .int .i64 N ∧ fr 33 = .int .i64 j) ∧
      L = [] ∧ H2 = H1) ⟨by simp [f0, f17, f18, loW, hiW], rfl, rfl⟩ ?_
    clear f0 f17 f18
    rintro j hj fr L H2 ⟨⟨f0, f7, f8, f17, f18, f31, f32, f33⟩, rfl, rfl⟩
    simp [f0, f7, f8, f17, f18, f31, f32, f33]
    refine cond_dec (fun ht2 => ?_) fun hf2 => ?_
    · have gk := fun L => o1.sl.load (i := j) (L := L) (by omega)
      have gB := o1.sl.addr (i := (j : Int)) (by omega)
      simp only [Int.toNat_natCast] at gB
      rw [g _ (by omega)] at gk
      simp (disch := omega) [f0, f7, f8, f17, f18, f31, f32, f33, gB, gk, wrap_i64, loW, hiW]
      omega
    · have : j = N := by omega
      subst this
      simp (disch := omega) [f0, f7, f8, f17, f18, f31, f32, f33, wrap_i64]
      rw [← gp]
      refine cond_dec (fun hz => ?_) fun hz => ?_
      · simp
        exact hT _ (balB_no ht hz) _ (hx.trans x1)
      · simp (disch := omega) [f0, f7, f8, f17, f18, f31, f32, f33, wrap_i64]
        exact ⟨by omega, hx.trans x1, balT_succ hb hz⟩
  · have : i = l.length := by omega
    subst this
    simp
    exact hT _ hb _ hx

theorem ref_Balanced {v : V} {l : List Int} (hv : SlV H v l)
    (hK : K (.tup [.bool (balP l).1, .int .i64 (balP l).2]) H) : VCall tbl lim 30 [v] H K := by
  refine VCall_fn tbl_at30 rfl ?_
  simp [vf30, hv.stor]
  refine ref_rowError hv ?_
  simp
  by_cases hr : rowErr l ≠ 0
  · simp [hr]; simpa [balP, hr] using hK
  replace hr := Decidable.not_not.1 hr
  have hl := (rowOk hr).1
  have hT : ∀ b, balB l = b → K (.tup [.bool b, .int .i64 0]) H := by
    intro b e
    simpa [balP, hr, e] using hK
  simp [hr, hv.len]
  refine wLoop_up l.length (fun i fr L H' => (fr 0 = v ∧ fr 5 = .int .i64 ((i : Int) + 1)) ∧ L = [] ∧ H' = H ∧ balT l i = true) ⟨by simp, rfl, rfl, rfl⟩ ?_
  rintro i hi fr L H' ⟨⟨f0, f5⟩, rfl, rfl, hb⟩
  simp [f0, f5, hv.len]
  refine cond_dec (fun ht => ?_) fun hf => ?_
  · have ht : i < l.length := by omega
    simp (disch := omega) [f0, f5, wrap_i64, hv.stor]
    refine ref_extremes (w := i + 1) hv hr (by omega) ?_
    have gp : gap l (i + 1) = hiW l (i + 1) (l.length - (i + 1) + 1) - loW l (i + 1) (l.length - (i + 1) + 1) := rfl
    have b1 := loW_bd hr (w := i + 1) (k := l.length - (i + 1) + 1)
    have b2 := hiW_bd hr (w := i + 1) (k := l.length - (i + 1) + 1)
    generalize l.length - (i + 1) + 1 = N at *
    simp (disch := omega) [f0, f5, wrap_i64]
    rw [← gp]
    refine cond_dec (fun hz => ?_) fun hz => ?_
    · simp
      exact hT _ (balB_no ht hz)
    · simp (disch := omega) [f0, f5, wrap_i64]
      exact ⟨by omega, balT_succ hb hz⟩
  · have : i = l.length := by omega
    subst this
    simp
    exact hT _ hb

theorem hole_win {dn dd pn pd n w i : Nat} (h : i + w ≤ n) : win (holesL dn dd pn pd n) w i = (bef dn dd pn pd (i + w) : Nat) - (bef dn dd pn pd i : Nat) := by
  have e : wnd (holesL dn dd pn pd n) w i = (holesL dn dd pn pd (i + w)).drop i := by
    have e3 : (holesL dn dd pn pd n).take (i + w) = holesL dn dd pn pd (i + w) := by
      simp [holesL, ← List.map_take, List.take_range, Nat.min_eq_left h]
    rw [← e3, List.drop_take, Nat.add_sub_cancel_left]; rfl
  rw [win, e, holes_drop (by omega)]
theorem hole_bal {dn dd pn pd n : Nat} (D : DP dn dd pn pd) : balB (holesL dn dd pn pd n) = true := by
  rw [balB_iff]
  intro w i j hw hi hj
  simp [holesL] at hi hj
  rw [hole_win hi, hole_win hj]
  have g1 := (bef_gap D (x := i) (y := i + w) (by omega)).2
  have g2 := (bef_gap D (x := j) (y := j + w) (by omega)).1
  have e1 : ((i + w : Nat) : Int) - i = w := by omega
  have e2 : ((j + w : Nat) : Int) - j = w := by omega
  rw [e1] at g1
  rw [e2] at g2
  generalize ((bef dn dd pn pd (i + w) : Nat) - (bef dn dd pn pd i : Nat) : Int) = A at *
  generalize ((bef dn dd pn pd (j + w) : Nat) - (bef dn dd pn pd j : Nat) : Int) = B at *
  generalize (w : Int) * dn = Q at *
  have h1 : (A - B) * dd < 2 * dd := by rw [Int.sub_mul]; omega
  have h2 := Int.lt_of_mul_lt_mul_right h1 (by omega)
  omega
theorem hole_row {dn dd pn pd n : Nat} (D : DP dn dd pn pd) (hn : n ≤ 200) : rowErr (holesL dn dd pn pd n) = 0 := by
  have hb : rBad (holesL dn dd pn pd n) = false := by
    rw [rBad, List.any_eq_false]
    intro x hx
    obtain ⟨i, hi, rfl⟩ := List.mem_map.1 hx
    have g1 := (bef_gap D (x := i) (y := i + 1) (by omega)).2
    have m := bef_mono (dn := dn) (dd := dd) (pn := pn) (pd := pd) (show i ≤ i + 1 by omega)
    have e1 : ((i + 1 : Nat) : Int) - i = 1 := by omega
    rw [e1] at g1
    have d3 := D.d3
    have h2 : 0 ≤ inHole dn dd pn pd i := by simp only [inHole]; omega
    have h1 : inHole dn dd pn pd i * dd < 7 * dd := by simp only [inHole]; omega
    have h3 := Int.lt_of_mul_lt_mul_right h1 (by omega)
    simp; omega
  have hl : ¬ 200 < (holesL dn dd pn pd n).length := by simp [holesL]; omega
  simp only [rowErr, hl, hb, if_false]; rfl

theorem law_KnotBalanced {a b c d e f : Int} (hlim : lim ≤ H.length) (ha : I64 a) (hb : I64 b) (hc : I64 c) (hd : I64 d) (he : I64 e) (hf : I64 f) (hK : ∀ H', K (.bool true) H') :
    VCall tbl lim 8 [.agg [.int .i64 a, .int .i64 b, .int .i64 c, .int .i64 d, .int .i64 e, .int .i64 f]] H K := by
  refine VCall_fn tbl_at8 rfl ?_
  have r0 : rd (some 2) [.int .i64 a, .int .i64 b, .int .i64 c, .int .i64 d, .int .i64 e, .int .i64 f] 0 = some (rat a b) := rfl
  have r2 : rd (some 2) [.int .i64 a, .int .i64 b, .int .i64 c, .int .i64 d, .int .i64 e, .int .i64 f] 2 = some (rat c d) := rfl
  simp [vf8, r0, r2]
  refine knot_Row ha hb hc hd hlim (fun h => ?_) fun h dn dd pn pd N e1 e2 e3 e4 e5 hN D H1 v x1 o1 => ?_
  · simp
    refine law_known hlim fun H2 _ => ?_
    simp
    exact hK _
  · replace x1 : HX H H1 := x1
    have l1 := x1.len
    have hlen := o1.sl.len
    have en : (holesL dn dd pn pd N).length = N := by simp [holesL]
    rw [en] at hlen
    simp [o1.sl.stor, hlen]
    refine cond_dec (fun h4 => ?_) fun h4 => ?_
    · simp
      refine law_known (show lim ≤ H1.length by omega) fun H2 _ => ?_
      simp
      exact hK _
    simp [o1.sl.stor]
    refine knot_Balanced o1.sl (show lim ≤ H1.length by omega) fun H2 x2 => ?_
    replace x2 : HX H1 H2 := x2
    have l2 := x2.len
    have eB : balP (holesL dn dd pn pd N) = (true, 0) := by
      simp [balP, hole_row D (show N ≤ 200 by omega), hole_bal D]
    rw [eB]
    simp
    refine law_known (show lim ≤ H2.length by omega) fun H3 _ => ?_
    simp
    exact hK _

theorem rev_eq {l : List Int} : (List.range l.length).map (fun k => l.getD (l.length - 1 - k) 0) = l.reverse := by
  refine ext_getD (by simp) fun k hk => ?_
  have hk : k < l.length := by simpa using hk
  rw [getD_map_range hk]
  simp [List.getD_eq_getElem?_getD, List.getElem?_reverse hk]

theorem law_KnotBalances {v : V} {l : List Int} (hv : SlV H v l) (hlim : lim ≤ H.length) (hK : ∀ H', K (.bool true) H') :
    VCall tbl lim 7 [v] H K := by
  refine VCall_fn tbl_at7 rfl ?_
  simp [vf7, hv.len]
  refine cond_dec (fun ht => ?_) fun hf => ?_
  · simp
    refine law_known hlim fun H2 _ => ?_
    simp
    exact hK _
  simp [hv.stor]
  refine knot_Balanced hv hlim fun H1 x1 => ?_
  replace x1 : HX H H1 := x1
  have l1 := x1.len
  simp [hv.stor]
  refine ref_Balanced (hv.mono x1) ?_
  have w0 := wrap_i64 (n := (l.length : Int) - 1) (by omega) (by omega)
  simp [hv.len, w0]
  refine wLoop_up l.length (fun i fr L H' => ∃ u, (fr 0 = v ∧ fr 3 = .bool (balP l).1 ∧ fr 4 = .int .i64 (balP l).2 ∧ fr 7 = u ∧ fr 8 = .int .i64 ((l.length : Int) - 1 - i)) ∧
    L = [] ∧ HX H1 H' ∧ OwnV H1.length H' u ((List.range i).map fun k => l.getD (l.length - 1 - k) 0)) ⟨.snil, by simp, rfl, .refl, .nil⟩ ?_
  rintro i hi fr L H' ⟨u, ⟨f0, f3, f4, f7, f8⟩, rfl, hx, hu⟩
  have hxl := hx.len
  have hv1 := hv.mono (x1.trans hx)
  simp [f0, f3, f4, f7, f8]
  refine cond_dec (fun ht => ?_) fun hf => ?_
  · have ha := hv1.addr (i := (l.length : Int) - 1 - i) (by omega)
    have et : ((l.length : Int) - 1 - i).toNat = l.length - 1 - i := by omega
    rw [et] at ha
    have hld := fun L => hv1.load (i := l.length - 1 - i) (L := L) (by omega)
    have hv2 := hu.append (lim := lim) (x := l.getD (l.length - 1 - i) 0) (by simp; omega)
    simp at hv2
    have w1 := wrap_i64 (n := (l.length : Int) - 1 - i - 1) (by omega) (by omega)
    simp (disch := omega) [f0, f3, f4, f7, f8, ha, hld, hv2, splice11, w1]
    refine ⟨by omega, _, ⟨rfl, by omega⟩, hu.apX hx (Nat.le_refl _), ?_⟩
    rw [List.range_succ, List.map_append]
    simpa using hu.ap hxl
  · have : i = l.length := by omega
    subst this
    rw [rev_eq] at hu
    simp [f0, f3, f4, f7, f8, hu.sl.stor]
    refine knot_Balanced hu.sl (show lim ≤ H'.length by omega) fun H2 x2 => ?_
    replace x2 : HX H' H2 := x2
    have l2 := x2.len
    rw [balP_rev]
    simp [f3, f4]
    refine law_known (show lim ≤ H2.length by omega) fun H3 _ => ?_
    simp
    exact hK _
end
end Go.Proofs.Ytakbcmofgfjeiaa.Vm
