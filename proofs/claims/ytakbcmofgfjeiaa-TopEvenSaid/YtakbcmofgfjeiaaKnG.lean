/- Laws of knot over the machine: runs. -/
import Derived.Test.YtakbcmofgfjeiaaKnD
namespace Go.Proofs.Ytakbcmofgfjeiaa.Vm
open Go
set_option maxRecDepth 100000
set_option linter.unusedSimpArgs false
set_option linter.unusedVariables false
attribute [-simp] List.getD_eq_getElem?_getD

/-- the run of equal entries that ends before i -/
def run (l : List Int) : Nat → Nat
  | 0 => 0
  | i + 1 => if 0 < i ∧ l.getD i 0 ≠ l.getD (i - 1) 0 then 1 else run l i + 1
def best (l : List Int) : Nat → Nat
  | 0 => 0
  | i + 1 => max (best l i) (run l (i + 1))
theorem run_le {l : List Int} : ∀ i, run l i ≤ i
  | 0 => Nat.le_refl _
  | i + 1 => by have := run_le (l := l) i; simp only [run]; split <;> omega
theorem best_le {l : List Int} : ∀ i, best l i ≤ i
  | 0 => Nat.le_refl _
  | i + 1 => by have := best_le (l := l) i; have := run_le (l := l) (i + 1); simp only [best]; omega
theorem best_mono {l : List Int} {a : Nat} : ∀ {b}, a ≤ b → best l a ≤ best l b := by
  intro b h
  induction h with
  | refl => exact Nat.le_refl _
  | step _ ih => simp only [best]; omega
theorem run_best {l : List Int} : ∀ i, run l i ≤ best l i
  | 0 => Nat.le_refl _
  | i + 1 => by simp only [best]; omega
theorem run_pos {l : List Int} {i : Nat} : 1 ≤ run l (i + 1) := by
  simp only [run]; split <;> omega
theorem getD_l {l m : List Int} {i : Nat} (h : i < l.length) : (l ++ m).getD i 0 = l.getD i 0 := by
  simp [List.getD_eq_getElem?_getD, List.getElem?_append_left h]
theorem getD_r {l m : List Int} {i : Nat} (h : l.length ≤ i) : (l ++ m).getD i 0 = m.getD (i - l.length) 0 := by
  simp [List.getD_eq_getElem?_getD, List.getElem?_append_right h]
theorem run_left {l m : List Int} : ∀ i, i ≤ l.length → run (l ++ m) i = run l i
  | 0, _ => rfl
  | i + 1, h => by
    simp only [run]
    rw [run_left i (by omega), getD_l (by omega), getD_l (by omega)]
theorem best_left {l m : List Int} : ∀ i, i ≤ l.length → best (l ++ m) i = best l i
  | 0, _ => rfl
  | i + 1, h => by
    simp only [best]
    rw [best_left i (by omega), run_left (i + 1) h]
theorem run_right {l : List Int} : ∀ j, j ≤ l.length → run (l ++ l) (l.length + j) ≤ run l l.length + run l j
  | 0, _ => by simp [run_left, run]
  | j + 1, h => by
    have ih := run_right (l := l) j (by omega)
    have hp := run_pos (l := l) (i := j)
    have e : l.length + (j + 1) = (l.length + j) + 1 := by omega
    rw [e]
    by_cases hj : j = 0
    · subst hj
      simp only [run]
      split <;> simp <;> simp [run] at ih <;> omega
    · have g1 : (l ++ l).getD (l.length + j) 0 = l.getD j 0 := by
        rw [getD_r (by omega), Nat.add_sub_cancel_left]
      have g2 : (l ++ l).getD (l.length + j - 1) 0 = l.getD (j - 1) 0 := by
        rw [getD_r (by omega)]; congr 1; omega
      simp only [run, g1, g2]
      by_cases hd : l.getD j 0 = l.getD (j - 1) 0
      · simp [hd]; omega
      · rw [if_pos ⟨by omega, hd⟩, if_pos ⟨by omega, hd⟩]; omega
theorem best_right {l : List Int} : ∀ j, j ≤ l.length → best (l ++ l) (l.length + j) ≤ 2 * best l l.length
  | 0, _ => by rw [Nat.add_zero, best_left _ (Nat.le_refl _)]; omega
  | j + 1, h => by
    have ih := best_right (l := l) j (by omega)
    have hr := run_right (l := l) (j + 1) h
    have h1 := run_best (l := l) l.length
    have h2 := run_best (l := l) (j + 1)
    have h3 := best_mono (l := l) h
    have e : l.length + (j + 1) = (l.length + j) + 1 := by omega
    rw [e] at hr ⊢
    simp only [best]; omega
theorem best_two {l : List Int} : best l l.length ≤ best (l ++ l) (l ++ l).length ∧ best (l ++ l) (l ++ l).length ≤ 2 * best l l.length := by
  have h1 := best_right (l := l) l.length (Nat.le_refl _)
  have h2 : best (l ++ l) l.length ≤ best (l ++ l) (l ++ l).length := best_mono (by simp)
  rw [best_left _ (Nat.le_refl _)] at h2
  rw [List.length_append] at *
  exact ⟨h2, h1⟩

def runsP (l : List Int) : Int × Int := if 600 < l.length then (0, 4) else ((best l l.length : Nat), 0)

theorem vappend_own {lim n : Nat} {H : Hp} {v y : V} {a l : List Int} (h : OwnV n H v a) (hy : SlV H y l) (hlim : lim ≤ n) (hn : n ≤ H.length) (hl : a.length < 1000000 ∧ l.length < 1000000) :
    ∃ v' H', vappend lim 1 8 H v y = some (v', H') ∧ OwnV n H' v' (a ++ l) ∧ (∀ H0, HX H0 H → H0.length ≤ n → HX H0 H') ∧ n ≤ H'.length := by
  cases h with
  | nil =>
    obtain ⟨v', H', e, o, x⟩ := vappend_nil (lim := lim) hy hn hl.2
    exact ⟨v', H', e, by simpa using o, fun H0 h0 _ => h0.trans x, by have := x.len; omega⟩
  | row h1 h3 =>
    rename_i b
    have hb := (List.getElem?_eq_some_iff.1 h3).1
    refine ⟨.sl H.length 0 (a ++ l).length 1, H.set b .dead ++ [.row (ints (a ++ l)) true], ?_, .row hn ?_, fun H0 hx hk => ?_, by simp; omega⟩
    · simp only [vappend, hy.cells, hy.len]
      simp [h3, show lim ≤ b by omega, show (a.length + l.length) * 8 ≤ 140737488355328 by omega, show a.length + l.length < 4611686018427387904 by omega]
      simp [ints]
    · have : H.length = (H.set b .dead).length := by simp
      rw [this]; exact List.getElem?_concat_length
    · obtain ⟨X, rfl⟩ := hx
      refine HX.of (by simp; omega) fun i hi => ?_
      rw [List.getElem?_append_left (by simp; omega), List.getElem?_set_ne (by omega), List.getElem?_append_left hi]

section
variable {lim : Nat} {H : Hp} {K : V → Hp → Prop}

theorem run_step {l : List Int} {i : Nat} (hc : 0 < i ∧ l.getD i 0 ≠ l.getD (i - 1) 0) : run l (i + 1) = 1 := by
  simp only [run, if_pos hc]
theorem runs_same {l : List Int} {i : Nat} (hc : ¬ (0 < i ∧ l.getD i 0 ≠ l.getD (i - 1) 0)) : run l (i + 1) = run l i + 1 := by
  simp only [run, if_neg hc]

theorem knot_Runs {v : V} {l : List Int} (hv : SlV H v l) (hK : K (.tup [.int .i64 (runsP l).1, .int .i64 (runsP l).2]) H) : VCall tbl lim 42 [v] H K := by
  refine VCall_fn tbl_at42 rfl ?_
  simp [vf42, hv.len]
  refine cond_dec (fun ht => ?_) fun hf => ?_
  · simp
    rw [runsP, if_pos (by omega)] at hK
    exact hK
  rw [runsP, if_neg (by omega)] at hK
  simp [hv.stor, hv.len]
  refine wLoop_up l.length (fun i fr L H' => (fr 0 = v ∧ fr 4 = .int .i64 (best l i : Nat) ∧ fr 5 = .int .i64 (run l i : Nat) ∧ fr 11 = v ∧ fr 12 = .int .i64 l.length ∧ fr 13 = .int .i64 i) ∧ L = [] ∧ H' = H) ⟨by simp [best, run], rfl, rfl⟩ ?_
  rintro i hi fr L H' ⟨⟨f0, f4, f5, f11, f12, f13⟩, rfl, rfl⟩
  simp [f0, f4, f5, f11, f12, f13]
  refine cond_dec (fun ht => ?_) fun hf => ?_
  · have hr := run_le (l := l) i
    have hr1 := run_le (l := l) (i + 1)
    have hb := best_le (l := l) i
    have hv1 := fun (L : Lo) => hv.load (i := i) (L := L) (by omega)
    have ha1 := hv.addr (i := (i : Int)) (by omega)
    have eb : best l (i + 1) = max (best l i) (run l (i + 1)) := rfl
    have fin : (best l (i + 1) : Int) = max (best l i : Int) (run l (i + 1) : Int) := by rw [eb]; omega
    by_cases h0 : 0 < i
    · have ha2 := hv.addr (i := (i : Int) - 1) (by omega)
      have e1 : ((i : Int) - 1).toNat = i - 1 := by omega
      rw [e1] at ha2
      have hv2 := fun (L : Lo) => hv.load (i := i - 1) (L := L) (by omega)
      by_cases hd : l.getD i 0 = l.getD (i - 1) 0
      · have er := runs_same (l := l) (i := i) (by simp [hd])
        rw [er] at fin
        simp (disch := omega) [f0, f4, f5, f11, f12, f13, ha1, hv1, ha2, hv2, wrap_i64, h0, hd, er, fin]
        exact ht
      · have er := run_step (l := l) (i := i) ⟨h0, hd⟩
        rw [er] at fin
        simp (disch := omega) [f0, f4, f5, f11, f12, f13, ha1, hv1, ha2, hv2, wrap_i64, h0, hd, er, fin]
        exact ht
    · have er := runs_same (l := l) (i := i) (by omega)
      rw [er] at fin
      simp (disch := omega) [f0, f4, f5, f11, f12, f13, ha1, hv1, wrap_i64, h0, er, fin]
      exact ht
  · have : i = l.length := by omega
    subst this
    simp [f4]
    exact hK

theorem ref_Runs {v : V} {l : List Int} (hv : SlV H v l) (hK : K (.tup [.int .i64 (runsP l).1, .int .i64 (runsP l).2]) H) : VCall tbl lim 43 [v] H K := by
  refine VCall_fn tbl_at43 rfl ?_
  simp [vf43, hv.len]
  refine cond_dec (fun ht => ?_) fun hf => ?_
  · simp
    rw [runsP, if_pos (by omega)] at hK
    exact hK
  rw [runsP, if_neg (by omega)] at hK
  simp [hv.stor, hv.len]
  refine wLoop_up l.length (fun i fr L H' => (fr 0 = v ∧ fr 4 = .int .i64 (best l i : Nat) ∧ fr 5 = .int .i64 (run l i : Nat) ∧ fr 6 = .int .i64 i) ∧ L = [] ∧ H' = H) ⟨by simp [best, run], rfl, rfl⟩ ?_
  rintro i hi fr L H' ⟨⟨f0, f4, f5, f6⟩, rfl, rfl⟩
  simp [f0, f4, f5, f6, hv.len]
  refine cond_dec (fun ht => ?_) fun hf => ?_
  · have hr := run_le (l := l) i
    have hr1 := run_le (l := l) (i + 1)
    have hb := best_le (l := l) i
    have hv1 := fun (L : Lo) => hv.load (i := i) (L := L) (by omega)
    have ha1 := hv.addr (i := (i : Int)) (by omega)
    have eb : best l (i + 1) = max (best l i) (run l (i + 1)) := rfl
    have fin : (best l (i + 1) : Int) = max (best l i : Int) (run l (i + 1) : Int) := by rw [eb]; omega
    by_cases h0 : 0 < i
    · have ha2 := hv.addr (i := (i : Int) - 1) (by omega)
      have e1 : ((i : Int) - 1).toNat = i - 1 := by omega
      rw [e1] at ha2
      have hv2 := fun (L : Lo) => hv.load (i := i - 1) (L := L) (by omega)
      by_cases hd : l.getD i 0 = l.getD (i - 1) 0
      · have er := runs_same (l := l) (i := i) (by simp [hd])
        rw [er] at fin
        simp (disch := omega) [f0, f4, f5, f6, ha1, hv1, ha2, hv2, wrap_i64, h0, hd, er, fin]
        exact ht
      · have er := run_step (l := l) (i := i) ⟨h0, hd⟩
        rw [er] at fin
        simp (disch := omega) [f0, f4, f5, f6, ha1, hv1, ha2, hv2, wrap_i64, h0, hd, er, fin]
        exact ht
    · have er := runs_same (l := l) (i := i) (by omega)
      rw [er] at fin
      simp (disch := omega) [f0, f4, f5, f6, ha1, hv1, wrap_i64, h0, er, fin]
      exact ht
  · have : i = l.length := by omega
    subst this
    simp [f4]
    exact hK

theorem law_KnotRuns {v : V} {l : List Int} (hv : SlV H v l) (hlim : lim ≤ H.length) (hK : ∀ H', K (.bool true) H') :
    VCall tbl lim 14 [v] H K := by
  refine VCall_fn tbl_at14 rfl ?_
  simp [vf14, hv.len]
  refine cond_dec (fun ht => ?_) fun hf => ?_
  · simp
    refine law_known hlim fun H2 _ => ?_
    simp
    exact hK _
  simp [hv.stor]
  refine knot_Runs hv ?_
  simp [hv.stor]
  refine ref_Runs hv ?_
  simp [hv.len]
  refine cond_dec (fun ht => ?_) fun hf => ?_
  · simp
    refine law_known hlim fun H2 _ => ?_
    simp
    exact hK _
  have o0 : OwnV H.length (H ++ [Blk.row [] true]) (.sl H.length 0 0 1) [] := OwnV.new (l := []) (Nat.le_refl _)
  have x0 : HX H (H ++ [Blk.row [] true]) := .push
  obtain ⟨v1, H1, e1, o1, x1, n1⟩ := vappend_own o0 (hv.mono x0) hlim (by simp) ⟨by simp, by omega⟩
  replace x1 := x1 H x0 (Nat.le_refl _)
  obtain ⟨v2, H2, e2, o2, x2, n2⟩ := vappend_own o1 (hv.mono x1) hlim n1 ⟨by simp; omega, by omega⟩
  replace x2 := x2 H x1 (Nat.le_refl _)
  simp [hv.stor, e1, e2, o1.sl.stor, o2.sl.stor]
  refine knot_Runs o2.sl ?_
  have b := best_two (l := l)
  have r1 : runsP l = (((best l l.length : Nat) : Int), 0) := by rw [runsP, if_neg (by omega)]
  have r2 : runsP (l ++ l) = (((best (l ++ l) (l ++ l).length : Nat) : Int), 0) := by rw [runsP, if_neg (by simp; omega)]
  have hb := best_le (l := l) l.length
  simp only [List.nil_append, r1, r2] at *
  generalize best (l ++ l) (l ++ l).length = B at *
  generalize best l l.length = A at *
  have c1 : (A : Int) ≤ B := by omega
  have c2 : (B : Int) ≤ 2 * A := by omega
  simp (disch := omega) [wrap_i64, c1, c2]
  refine law_known (show lim ≤ H2.length by omega) fun H3 _ => ?_
  simp
  exact hK _
end
end Go.Proofs.Ytakbcmofgfjeiaa.Vm
