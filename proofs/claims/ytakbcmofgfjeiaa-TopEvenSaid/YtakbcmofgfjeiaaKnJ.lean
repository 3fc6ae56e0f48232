/- Laws of knot over the machine: windows of a row, Densest. -/
import Derived.Test.YtakbcmofgfjeiaaKnE
namespace Go.Proofs.Ytakbcmofgfjeiaa.Vm
open Go
set_option maxRecDepth 100000
set_option linter.unusedSimpArgs false
set_option linter.unusedVariables false
attribute [-simp] List.getD_eq_getElem?_getD

def rBad (l : List Int) : Bool := l.any fun x => decide (x < 0) || decide (1000000 < x)
def rowErr (l : List Int) : Int := if 200 < l.length then 4 else if rBad l then 1 else 0
def wnd (l : List Int) (w i : Nat) : List Int := (l.drop i).take w
def win (l : List Int) (w i : Nat) : Int := (wnd l w i).sum
def argW (l : List Int) (w : Nat) : Nat → Nat
  | 0 => 0
  | k + 1 => if win l w (argW l w k) < win l w k then k else argW l w k
def loW (l : List Int) (w : Nat) : Nat → Int
  | 0 => win l w 0
  | k + 1 => min (loW l w k) (win l w k)
def hiW (l : List Int) (w : Nat) : Nat → Int
  | 0 => win l w 0
  | k + 1 => max (hiW l w k) (win l w k)
theorem hiW_arg {l : List Int} {w : Nat} : ∀ k, hiW l w k = win l w (argW l w k)
  | 0 => rfl
  | k + 1 => by
    simp only [hiW, argW, hiW_arg k]
    split <;> omega
theorem argW_lt {l : List Int} {w : Nat} : ∀ k, argW l w k < k + 1
  | 0 => by simp [argW]
  | k + 1 => by
    have := argW_lt (l := l) (w := w) k
    simp only [argW]; split <;> omega
theorem argW_le {l : List Int} {w k : Nat} : argW l w k ≤ k - 1 := by
  cases k with
  | zero => simp [argW]
  | succ k =>
    have := argW_lt (l := l) (w := w) k
    simp only [argW]; split <;> omega
theorem rowOk {l : List Int} (h : rowErr l = 0) : l.length ≤ 200 ∧ ∀ x ∈ l, 0 ≤ x ∧ x ≤ 1000000 := by
  unfold rowErr at h
  split at h
  · cases h
  split at h
  · cases h
  rename_i h1 h2
  refine ⟨by omega, fun x hx => ?_⟩
  have h2 : rBad l = false := by simpa using h2
  rw [rBad, List.any_eq_false] at h2
  have := h2 x hx
  simp at this; omega
theorem sum_pos {l : List Int} (h : ∀ x ∈ l, 0 ≤ x ∧ x ≤ 1000000) : 0 ≤ l.sum ∧ l.sum ≤ l.length * 1000000 := by
  induction l with
  | nil => simp
  | cons a l ih =>
    have h1 := ih fun x hx => h x (List.mem_cons_of_mem _ hx)
    have h2 := h a List.mem_cons_self
    simp; omega
theorem wnd_mem {l : List Int} (h : ∀ x ∈ l, 0 ≤ x ∧ x ≤ 1000000) {w i : Nat} : ∀ x ∈ wnd l w i, 0 ≤ x ∧ x ≤ 1000000 :=
  fun x hx => h x (List.mem_of_mem_drop (List.mem_of_mem_take hx))
theorem win_bd {l : List Int} (h : rowErr l = 0) {w i : Nat} : 0 ≤ win l w i ∧ win l w i ≤ 200000000 := by
  have h1 := rowOk h
  have h2 := sum_pos (wnd_mem h1.2 (w := w) (i := i))
  have h3 : (wnd l w i).length ≤ 200 := by simp [wnd]; omega
  simp only [win]; omega
theorem SlV.win {H : Hp} {v : V} {l : List Int} (h : SlV H v l) {i w : Nat} (hw : i + w ≤ l.length) (h0 : 0 < l.length) {x y : Int} (hx : x = i) (hy : y = (i + w : Nat)) :
    ∃ u, vslS 1 v (some (.int .i64 x)) (some (.int .i64 y)) = some u ∧ SlV H u (wnd l w i) := by
  subst hx hy
  refine ⟨subV v i (i + w), h.subW ⟨by omega, hw⟩ h0 (by simp [vbounds, vint]; omega), ?_⟩
  have := h.sub (a := i) (b := i + w) ⟨by omega, hw⟩
  rwa [Nat.add_sub_cancel_left] at this

section
variable {lim : Nat} {H : Hp} {K : V → Hp → Prop}

theorem knot_validateRow {v : V} {l : List Int} (hv : SlV H v l) (hK : K (.int .i64 (rowErr l)) H) : VCall tbl lim 68 [v] H K := by
  refine VCall_fn tbl_at68 rfl ?_
  simp [vf68, hv.len]
  refine cond_dec (fun h1 => ?_) fun h1 => ?_
  · have : 200 < l.length := by omega
    simp; simpa [rowErr, this] using hK
  have h1' : ¬ 200 < l.length := by omega
  simp [hv.len]
  refine wLoop_up l.length (fun i fr L H' => (fr 0 = v ∧ fr 8 = v ∧ fr 9 = .int .i64 l.length ∧ fr 10 = .int .i64 i) ∧ L = [] ∧ H' = H ∧ rBad (l.take i) = false) ⟨by simp, rfl, rfl, by simp [rBad]⟩ ?_
  rintro i hi fr L H' ⟨⟨f0, f8, f9, f10⟩, rfl, rfl, hb⟩
  simp [f0, f8, f9, f10]
  refine cond_dec (fun ht => ?_) fun hf => ?_
  · simp (disch := omega) [f0, f8, f9, f10, hv.addr, hv.load]
    have hs : rBad (l.take (i + 1)) = (decide (l.getD i 0 < 0) || decide (1000000 < l.getD i 0)) := by
      rw [rBad, any_snoc ht]; rw [rBad] at hb; rw [hb]; rfl
    refine cond_bool (fun hz => ?_) fun hz => ?_
    · have : rBad l = true := any_at ht hz
      simp
      simpa [rowErr, h1', this] using hK
    · rw [hz] at hs
      simp (disch := omega) [f0, f8, f9, f10, wrap_i64]
      exact ⟨by omega, hs⟩
  · have : i = l.length := by omega
    subst this
    rw [List.take_length] at hb
    simp
    simpa [rowErr, h1', hb] using hK

theorem ref_rowError {v : V} {l : List Int} (hv : SlV H v l) (hK : K (.int .i64 (rowErr l)) H) : VCall tbl lim 70 [v] H K := by
  refine VCall_fn tbl_at70 rfl ?_
  simp [vf70, hv.len]
  refine cond_dec (fun h1 => ?_) fun h1 => ?_
  · have : 200 < l.length := by omega
    simp; simpa [rowErr, this] using hK
  have h1' : ¬ 200 < l.length := by omega
  simp [hv.len]
  refine wLoop_up l.length (fun i fr L H' => (fr 0 = v ∧ fr 3 = .int .i64 i) ∧ L = [] ∧ H' = H ∧ rBad (l.take i) = false) ⟨by simp, rfl, rfl, by simp [rBad]⟩ ?_
  rintro i hi fr L H' ⟨⟨f0, f3⟩, rfl, rfl, hb⟩
  simp [f0, f3, hv.len]
  refine cond_dec (fun ht => ?_) fun hf => ?_
  · simp (disch := omega) [f0, f3, hv.addr, hv.load]
    have hs : rBad (l.take (i + 1)) = (decide (l.getD i 0 < 0) || decide (1000000 < l.getD i 0)) := by
      rw [rBad, any_snoc ht]; rw [rBad] at hb; rw [hb]; rfl
    refine cond_bool (fun hz => ?_) fun hz => ?_
    · have : rBad l = true := any_at ht hz
      simp
      simpa [rowErr, h1', this] using hK
    · rw [hz] at hs
      simp (disch := omega) [f0, f3, wrap_i64]
      exact ⟨by omega, hs⟩
  · have : i = l.length := by omega
    subst this
    rw [List.take_length] at hb
    simp
    simpa [rowErr, h1', hb] using hK

theorem knot_sums {v : V} {l : List Int} (hv : SlV H v l) (hr : rowErr l = 0) {w : Nat} (hw : 1 ≤ w ∧ w ≤ l.length) (hlim : lim ≤ H.length)
    (hK : ∀ H' u, HX H H' → OwnV H.length H' u ((List.range (l.length - w + 1)).map (win l w)) → K u H') : VCall tbl lim 69 [v, .int .i64 w] H K := by
  refine VCall_fn tbl_at69 rfl ?_
  have hl := (rowOk hr).1
  have e1 : (l.length : Int) - w + 1 = ((l.length - w + 1 : Nat) : Int) := by omega
  simp (disch := omega) [vf69, hv.len, wrap_i64, e1]
  refine wLoop_up (l.length - w + 1) (fun i fr L H' => ∃ u, (fr 0 = v ∧ fr 1 = .int .i64 w ∧ fr 5 = u ∧ fr 14 = .int .i64 ((l.length - w + 1 : Nat) : Int) ∧ fr 15 = .int .i64 i) ∧
    L = [] ∧ HX H H' ∧ OwnV H.length H' u ((List.range i).map (win l w))) ⟨.snil, by simp, rfl, .refl, .nil⟩ ?_
  rintro i hi fr L H' ⟨u, ⟨f0, f1, f5, f14, f15⟩, rfl, hx, hu⟩
  have hxl := hx.len
  have hv1 := hv.mono hx
  simp [f0, f1, f5, f14, f15]
  refine cond_dec (fun ht => ?_) fun hf => ?_
  · obtain ⟨s, es, ss⟩ := hv1.win (i := i) (w := w) (by omega) (by omega) (x := i) (y := (i : Int) + w) rfl (by omega)
    have hsl : (wnd l w i).length = w := by simp [wnd]; omega
    have hlen := ss.len
    rw [hsl] at hlen
    simp (disch := omega) [f0, f1, f5, f14, f15, wrap_i64, es, ss.stor, hlen, hv1.stor]
    refine wLoop_up w (fun j fr L H2 => (fr 0 = v ∧ fr 1 = .int .i64 w ∧ fr 5 = u ∧ fr 7 = .int .i64 ((wnd l w i).take j).sum ∧ fr 14 = .int .i64 ((l.length - w + 1 : Nat) : Int) ∧ fr 15 = .int .i64 i ∧ fr 23 = s ∧ fr 24 = .int .i64 w ∧ fr 25 = .int .i64 j) ∧
      L = [] ∧ H2 = H') ⟨by simp [f0, f1, f5, f14, f15], rfl, rfl⟩ ?_
    clear f0 f1 f5 f14 f15
    rintro j hj fr L H2 ⟨⟨f0, f1, f5, f7, f14, f15, f23, f24, f25⟩, rfl, rfl⟩
    simp [f0, f1, f5, f7, f14, f15, f23, f24, f25]
    refine cond_dec (fun ht2 => ?_) fun hf2 => ?_
    · have b := sum_pos (l := (wnd l w i).take (j + 1)) fun x hx => wnd_mem (rowOk hr).2 x (List.mem_of_mem_take hx)
      have bl : ((wnd l w i).take (j + 1)).length ≤ 200 := by simp; omega
      have es2 := sum_snoc (l := wnd l w i) (i := j) (by omega)
      have w2 := wrap_i64 (n := ((wnd l w i).take j).sum + (wnd l w i).getD j 0) (by omega) (by omega)
      simp (disch := omega) [f0, f1, f5, f7, f14, f15, f23, f24, f25, wrap_i64, ss.addr, ss.load, w2]
      exact ⟨by omega, es2.symm⟩
    · have : j = w := by omega
      subst this
      have e2 : ((wnd l j i).take j).sum = win l j i := by rw [List.take_of_length_le (by omega)]; rfl
      rw [e2] at f7
      have hv2 := hu.append (lim := lim) (x := win l j i) (by simp; omega)
      simp at hv2
      simp (disch := omega) [f0, f1, f5, f7, f14, f15, f23, f24, f25, wrap_i64, hv2, splice11]
      refine ⟨by omega, hu.apX hx (Nat.le_refl _), ?_⟩
      rw [List.range_succ, List.map_append]
      simpa using hu.ap hxl
  · have : i = l.length - w + 1 := by omega
    subst this
    simp [f5, hu.sl.stor]
    exact hK _ _ hx hu

theorem ref_extremes {v : V} {l : List Int} (hv : SlV H v l) (hr : rowErr l = 0) {w : Nat} (hw : 1 ≤ w ∧ w ≤ l.length)
    (hK : K (.tup [.int .i64 (loW l w (l.length - w + 1)), .int .i64 (hiW l w (l.length - w + 1)), .int .i64 (argW l w (l.length - w + 1) : Nat)]) H) : VCall tbl lim 71 [v, .int .i64 w] H K := by
  refine VCall_fn tbl_at71 rfl ?_
  have hl := (rowOk hr).1
  simp [vf71]
  refine wLoop_up (l.length - w + 1) (fun i fr L H' => (fr 0 = v ∧ fr 1 = .int .i64 w ∧ fr 7 = .int .i64 (if i = 0 then 0 else loW l w i) ∧ fr 8 = .int .i64 (if i = 0 then 0 else hiW l w i) ∧ fr 9 = .int .i64 (argW l w i : Nat) ∧ fr 10 = .int .i64 i) ∧
    L = [] ∧ H' = H) ⟨by simp [argW], rfl, rfl⟩ ?_
  rintro i hi fr L H' ⟨⟨f0, f1, f7, f8, f9, f10⟩, rfl, rfl⟩
  simp (disch := omega) [f0, f1, f7, f8, f9, f10, hv.len, wrap_i64]
  refine cond_dec (fun ht => ?_) fun hf => ?_
  · obtain ⟨s, es, ss⟩ := hv.win (i := i) (w := w) (by omega) (by omega) (x := i) (y := (i : Int) + w) rfl (by omega)
    have hsl : (wnd l w i).length = w := by simp [wnd]; omega
    simp (disch := omega) [f0, f1, f7, f8, f9, f10, wrap_i64, es, ss.stor, hv.stor]
    refine ref_sum ss (by omega) (fun x hx => by have := wnd_mem (rowOk hr).2 x hx; omega) ?_
    have ew : (wnd l w i).sum = win l w i := rfl
    rw [ew]
    by_cases h0 : i = 0
    · subst h0
      simp (disch := omega) [f0, f1, f7, f8, f9, f10, wrap_i64, loW, hiW, argW]
    · have h0' : ¬ (i : Int) = 0 := by omega
      simp (disch := omega) [f0, f1, f7, f8, f9, f10, wrap_i64, h0, h0']
      refine cond_dec (fun hz => ?_) fun hz => ?_
      · have a1 : argW l w (i + 1) = i := by simp only [argW]; rw [if_pos (by rw [← hiW_arg]; exact hz)]
        have a2 : hiW l w (i + 1) = win l w i := by simp only [hiW]; omega
        simp (disch := omega) [f0, f1, f7, f8, f9, f10, wrap_i64, h0, a1, a2, loW]
        omega
      · have a1 : argW l w (i + 1) = argW l w i := by simp only [argW]; rw [if_neg (by rw [← hiW_arg]; exact hz)]
        have a2 : hiW l w (i + 1) = hiW l w i := by simp only [hiW]; omega
        simp (disch := omega) [f0, f1, f7, f8, f9, f10, wrap_i64, h0, a1, a2, loW]
        omega
  · have : i = l.length - w + 1 := by omega
    subst this
    simp [f7, f8, f9]
    exact hK

def denP (l : List Int) (w : Int) : Int × Int × Int :=
  if rowErr l ≠ 0 then (0, 0, rowErr l) else if w < 1 ∨ (l.length : Int) < w then (0, 0, 1) else (((argW l w.toNat (l.length - w.toNat + 1) : Nat) : Int), hiW l w.toNat (l.length - w.toNat + 1), 0)

theorem knot_Densest {v : V} {l : List Int} {w : Int} (hv : SlV H v l) (hlim : lim ≤ H.length)
    (hK : ∀ H', HX H H' → K (.tup [.int .i64 (denP l w).1, .int .i64 (denP l w).2.1, .int .i64 (denP l w).2.2]) H') : VCall tbl lim 31 [v, .int .i64 w] H K := by
  refine VCall_fn tbl_at31 rfl ?_
  simp [vf31, hv.stor]
  refine knot_validateRow hv ?_
  simp
  by_cases hr : rowErr l ≠ 0
  · have := hK H .refl
    simp [hr]; simpa [denP, hr] using this
  replace hr := Decidable.not_not.1 hr
  have hl := (rowOk hr).1
  simp [hr, hv.len]
  refine cond_bool (fun h1 => ?_) fun h1 => ?_
  · have h1' : w < 1 ∨ (l.length : Int) < w := by simpa using h1
    have := hK H .refl
    simp; simpa [denP, hr, h1'] using this
  have h1' : ¬ (w < 1 ∨ (l.length : Int) < w) := by simp at h1; omega
  obtain ⟨W, rfl⟩ : ∃ W : Nat, w = W := ⟨w.toNat, by omega⟩
  have hW : 1 ≤ W ∧ W ≤ l.length := by omega
  simp only [denP, hr, h1', if_false, Int.toNat_natCast, ne_eq, not_true_eq_false] at hK
  simp [hv.stor]
  refine knot_sums hv hr hW hlim fun H1 u x1 o1 => ?_
  replace x1 : HX H H1 := x1
  have hn : ((List.range (l.length - W + 1)).map (win l W)).length = l.length - W + 1 := by simp
  have ol := o1.sl.len
  rw [hn] at ol
  have g : ∀ k, k < l.length - W + 1 → ((List.range (l.length - W + 1)).map (win l W)).getD k 0 = win l W k := fun k hk => getD_map_range hk
  generalize hN : l.length - W + 1 = N at *
  generalize (List.range N).map (win l W) = sl at *
  simp [o1.sl.stor, ol]
  refine wLoop_up N (fun i fr L H' => (fr 8 = u ∧ fr 9 = .int .i64 ((argW l W i : Nat) : Int) ∧ fr 28 = u ∧ fr 29 = .int .i64 N ∧ fr 30 = .int .i64 i) ∧
    L = [] ∧ H' = H1) ⟨by simp [argW], rfl, rfl⟩ ?_
  rintro i hi fr L H' ⟨⟨f8, f9, f28, f29, f30⟩, rfl, rfl⟩
  have ha := argW_le (l := l) (w := W) (k := i)
  have gi := fun L => o1.sl.load (i := argW l W i) (L := L) (by omega)
  have gA := o1.sl.addr (i := ((argW l W i : Nat) : Int)) (by omega)
  simp only [Int.toNat_natCast] at gA
  rw [g _ (by omega)] at gi
  simp [f8, f9, f28, f29, f30]
  refine cond_dec (fun ht => ?_) fun hf => ?_
  · have gk := fun L => o1.sl.load (i := i) (L := L) (by omega)
    have gB := o1.sl.addr (i := (i : Int)) (by omega)
    simp only [Int.toNat_natCast] at gB
    rw [g _ (by omega)] at gk
    simp (disch := omega) [f8, f9, f28, f29, f30, gA, gB, gi, gk]
    refine cond_dec (fun hz => ?_) fun hz => ?_
    · have a1 : argW l W (i + 1) = i := by simp only [argW]; rw [if_pos hz]
      simp (disch := omega) [f8, f9, f28, f29, f30, wrap_i64, a1]
      omega
    · have a1 : argW l W (i + 1) = argW l W i := by simp only [argW]; rw [if_neg hz]
      simp (disch := omega) [f8, f9, f28, f29, f30, wrap_i64, a1]
      omega
  · have : i = N := by omega
    subst this
    have := hK _ x1
    rw [hiW_arg] at this
    simp (disch := omega) [f8, f9, f28, f29, f30, gA, gi]
    exact this

theorem ref_Densest {v : V} {l : List Int} {w : Int} (hv : SlV H v l)
    (hK : K (.tup [.int .i64 (denP l w).1, .int .i64 (denP l w).2.1, .int .i64 (denP l w).2.2]) H) : VCall tbl lim 32 [v, .int .i64 w] H K := by
  refine VCall_fn tbl_at32 rfl ?_
  simp [vf32, hv.stor]
  refine ref_rowError hv ?_
  simp
  by_cases hr : rowErr l ≠ 0
  · simp [hr]; simpa [denP, hr] using hK
  replace hr := Decidable.not_not.1 hr
  simp [hr, hv.len]
  refine cond_bool (fun h1 => ?_) fun h1 => ?_
  · have h1' : w < 1 ∨ (l.length : Int) < w := by simpa using h1
    simp; simpa [denP, hr, h1'] using hK
  have h1' : ¬ (w < 1 ∨ (l.length : Int) < w) := by simp at h1; omega
  obtain ⟨W, rfl⟩ : ∃ W : Nat, w = W := ⟨w.toNat, by omega⟩
  have hW : 1 ≤ W ∧ W ≤ l.length := by omega
  simp only [denP, hr, h1', if_false, Int.toNat_natCast, ne_eq, not_true_eq_false] at hK
  simp [hv.stor]
  refine ref_extremes hv hr hW ?_
  simp
  exact hK

theorem law_KnotDensest {v : V} {l : List Int} {w : Int} (hv : SlV H v l) (hlim : lim ≤ H.length) (hw : I64 w) (hK : ∀ H', K (.bool true) H') :
    VCall tbl lim 9 [v, .int .i64 w] H K := by
  refine VCall_fn tbl_at9 rfl ?_
  simp [vf9, hv.len]
  refine cond_dec (fun ht => ?_) fun hf => ?_
  · simp
    refine law_known hlim fun H2 _ => ?_
    simp
    exact hK _
  simp [hv.stor]
  refine knot_Densest hv hlim fun H1 x1 => ?_
  replace x1 : HX H H1 := x1
  have l1 := x1.len
  simp [hv.stor]
  refine ref_Densest (hv.mono x1) ?_
  simp
  refine law_known (show lim ≤ H1.length by omega) fun H3 _ => ?_
  simp
  exact hK _
end
end Go.Proofs.Ytakbcmofgfjeiaa.Vm
