/- Package dye over the machine: shades. -/
import Derived.Test.YtkmcdiajcnejiaaVmTab
import Derived.Test.YtkmcdiajcnejiaaVmRec
namespace Go.Proofs.Ytkmcdiajcnejiaa.Vm
open Go
set_option maxRecDepth 100000
set_option linter.unusedSimpArgs false
set_option linter.unusedVariables false
attribute [-simp] List.getD_eq_getElem?_getD

theorem rd3_0 {a b c : V} : rd none [a, b, c] 0 = some a := Eq.trans rfl rfl
theorem rd3_1 {a b c : V} : rd none [a, b, c] 1 = some b := Eq.trans rfl rfl
theorem rd3_2 {a b c : V} : rd none [a, b, c] 2 = some c := Eq.trans rfl rfl
theorem rd3_w {a b c : V} : rd (some 3) [a, b, c] 0 = some (.agg [a, b, c]) := Eq.trans rfl rfl
theorem rd4_0 {a b c d : V} : rd none [a, b, c, d] 0 = some a := Eq.trans rfl rfl
theorem rd4_1 {a b c d : V} : rd (some 3) [a, b, c, d] 1 = some (.agg [b, c, d]) := Eq.trans rfl rfl
theorem rd5_0 {a b c d e : V} : rd none [a, b, c, d, e] 0 = some a := Eq.trans rfl rfl
theorem rd5_1 {a b c d e : V} : rd (some 3) [a, b, c, d, e] 1 = some (.agg [b, c, d]) := Eq.trans rfl rfl
theorem rd5_4 {a b c d e : V} : rd none [a, b, c, d, e] 4 = some e := Eq.trans rfl rfl
theorem rd4_w {a b c d : V} : rd (some 4) [a, b, c, d] 0 = some (.agg [a, b, c, d]) := Eq.trans rfl rfl
theorem rd5_w {a b c d e : V} : rd (some 5) [a, b, c, d, e] 0 = some (.agg [a, b, c, d, e]) := Eq.trans rfl rfl
theorem splice33 {a b c x y z : V} : splice [a, b, c] 0 [x, y, z] = [x, y, z] := by simp [splice]
theorem splice30 {a b c x : V} : splice [a, b, c] 0 [x] = [x, b, c] := by simp [splice]
theorem splice31 {a b c x : V} : splice [a, b, c] 1 [x] = [a, x, c] := by simp [splice]
theorem splice32 {a b c x : V} : splice [a, b, c] 2 [x] = [a, b, x] := by simp [splice]
attribute [simp] rd3_0 rd3_1 rd3_2 rd3_w rd4_0 rd4_1 rd5_0 rd5_1 rd5_4 rd4_w rd5_w splice33 splice30 splice31 splice32
theorem veqA_3 {a b c x y z : Int} {neg : Bool} : veqA neg [.int .i64, .int .i64, .int .i64] (.agg [.int .i64 a, .int .i64 b, .int .i64 c]) (.agg [.int .i64 x, .int .i64 y, .int .i64 z]) = some (.bool (if neg then !(decide (a = x) && (decide (b = y) && decide (c = z))) else decide (a = x) && (decide (b = y) && decide (c = z)))) := by
  simp [veqA, eqCells, eqCell]
  cases neg <;> rfl
theorem lastO {α : Type} {X : List α} {c : α} : (X ++ [c])[X.length]? = some c := by simp
theorem lastS {α : Type} {X : List α} {c d : α} : (X ++ [c]).set X.length d = X ++ [d] := by simp

def shV (l t b : Int) : V := .agg [.int .i64 l, .int .i64 t, .int .i64 b]
def colB (l t : Int) : Bool := decide (1 ≤ l ∧ l ≤ 10 ∧ 0 ≤ t ∧ t ≤ 5)
def shdB (l t b : Int) : Bool := decide (1 ≤ l ∧ l ≤ 10 ∧ 0 ≤ t ∧ t ≤ 5 ∧ 0 ≤ b ∧ b ≤ 3)
def bleachP (l t b : Int) : (Int × Int × Int) × Int := if shdB l t b = true then (if b = 3 then ((0, 0, 0), 14) else ((min (l + 2) 10, 0, b + 1), 0)) else ((0, 0, 0), 1)
def dyeP (l t b lv tn : Int) : (Int × Int × Int) × Int := if shdB l t b = true ∧ colB lv tn = true then (if l < lv then ((0, 0, 0), 14) else ((lv, tn, b), 0)) else ((0, 0, 0), 1)
def absP (n : Int) : Int := max n (-n)
def difP (l t l' t' : Int) : Int := 3 * absP (l - l') + min (absP (t - t')) (6 - absP (t - t'))
def differP (l t b l' t' b' : Int) : Int × Int := if shdB l t b = true ∧ shdB l' t' b' = true then (difP l t l' t', 0) else (0, 1)

section
variable {lim : Nat} {H : Hp} {K : V → Hp → Prop} {l t b l' t' b' lv tn n x y : Int}
theorem dye_isColor (hK : K (.bool (colB l t)) H) : VCall tbl lim 77 [.int .i64 l, .int .i64 t] H K := by
  refine VCall_fn tbl_at77 rfl ?_
  simp [vf77]
  simpa [colB, Bool.and_assoc] using hK
theorem dye_ValidShade (hK : K (.bool (shdB l t b)) H) : VCall tbl lim 45 [.agg [.int .i64 l, .int .i64 t, .int .i64 b]] H K := by
  refine VCall_fn tbl_at45 rfl ?_
  simp [vf45]
  refine dye_isColor ?_
  simp
  simpa [shdB, colB, Bool.and_assoc] using hK
theorem ref_within (hK : K (.bool (decide (x ≤ n ∧ n ≤ y))) H) : VCall tbl lim 47 [.int .i64 n, .int .i64 x, .int .i64 y] H K := by
  refine VCall_fn tbl_at47 rfl ?_
  simp [vf47]
  simpa [Bool.and_assoc] using hK
theorem ref_ValidShade (hK : K (.bool (shdB l t b)) H) : VCall tbl lim 46 [.agg [.int .i64 l, .int .i64 t, .int .i64 b]] H K := by
  refine VCall_fn tbl_at46 rfl ?_
  simp [vf46]
  refine ref_within ?_
  by_cases h1 : 1 ≤ l ∧ l ≤ 10
  · simp [h1]
    refine ref_within ?_
    by_cases h2 : 0 ≤ t ∧ t ≤ 5
    · simp [h2]
      refine ref_within ?_
      simp
      simpa [shdB, h1, h2] using hK
    · have e : shdB l t b = false := by simp only [shdB, decide_eq_false_iff_not]; omega
      rw [e] at hK
      simp [h2]
      simpa using hK
  · have e : shdB l t b = false := by simp only [shdB, decide_eq_false_iff_not]; omega
    rw [e] at hK
    simp [h1]
    simpa using hK
theorem dye_Bleach (hK : K (.tup [.agg [.int .i64 (bleachP l t b).1.1, .int .i64 (bleachP l t b).1.2.1, .int .i64 (bleachP l t b).1.2.2], .int .i64 (bleachP l t b).2]) H) : VCall tbl lim 90 [.agg [.int .i64 l, .int .i64 t, .int .i64 b]] H K := by
  refine VCall_fn tbl_at90 rfl ?_
  simp [vf90]
  refine dye_ValidShade ?_
  by_cases h : shdB l t b = true
  · have hb := h
    simp only [shdB, decide_eq_true_eq] at hb
    simp [h]
    refine cond_dec (fun h3 => ?_) fun h3 => ?_
    · subst h3; simp; simpa [bleachP, h] using hK
    · simp (disch := omega) [wrap_i64]; simpa [bleachP, h, h3] using hK
  · simp [h]; simpa [bleachP, h] using hK
theorem dye_Dye (hK : K (.tup [.agg [.int .i64 (dyeP l t b lv tn).1.1, .int .i64 (dyeP l t b lv tn).1.2.1, .int .i64 (dyeP l t b lv tn).1.2.2], .int .i64 (dyeP l t b lv tn).2]) H) : VCall tbl lim 89 [.agg [.int .i64 l, .int .i64 t, .int .i64 b], .int .i64 lv, .int .i64 tn] H K := by
  refine VCall_fn tbl_at89 rfl ?_
  simp [vf89]
  refine dye_ValidShade ?_
  by_cases h : shdB l t b = true
  · simp [h]
    refine dye_isColor ?_
    by_cases h2 : colB lv tn = true
    · simp [h2]
      refine cond_dec (fun h3 => ?_) fun h3 => ?_
      · simp; simpa [dyeP, h, h2, h3] using hK
      · simp; simpa [dyeP, h, h2, h3] using hK
    · simp [h2]; simpa [dyeP, h, h2] using hK
  · simp [h]; simpa [dyeP, h] using hK
theorem dye_abs (hn : -100 ≤ n ∧ n ≤ 100) (hK : K (.int .i64 (absP n)) H) : VCall tbl lim 54 [.int .i64 n] H K := by
  refine VCall_fn tbl_at54 rfl ?_
  simp (disch := omega) [vf54, wrap_i64, vun_neg]
  simpa [absP] using hK
theorem ref_apart (hn : -100 ≤ n ∧ n ≤ 100) (hK : K (.int .i64 (absP n)) H) : VCall tbl lim 78 [.int .i64 n] H K := by
  refine VCall_fn tbl_at78 rfl ?_
  simp (disch := omega) [vf78, wrap_i64, vun_neg]
  simpa [absP] using hK
theorem dye_Differ (hK : K (.tup [.int .i64 (differP l t b l' t' b').1, .int .i64 (differP l t b l' t' b').2]) H) : VCall tbl lim 97 [.agg [.int .i64 l, .int .i64 t, .int .i64 b], .agg [.int .i64 l', .int .i64 t', .int .i64 b']] H K := by
  refine VCall_fn tbl_at97 rfl ?_
  simp [vf97]
  refine dye_ValidShade ?_
  by_cases h : shdB l t b = true
  · simp [h]
    refine dye_ValidShade ?_
    by_cases h2 : shdB l' t' b' = true
    · have hb := h
      have hb2 := h2
      simp only [shdB, decide_eq_true_eq] at hb hb2
      simp (disch := omega) [h2, wrap_i64]
      refine dye_abs (by omega) ?_
      simp (disch := omega) [wrap_i64]
      refine dye_abs (by omega) ?_
      have a1 : 0 ≤ absP (l - l') ∧ absP (l - l') ≤ 9 := by unfold absP; omega
      have a2 : 0 ≤ absP (t - t') ∧ absP (t - t') ≤ 5 := by unfold absP; omega
      simp (disch := omega) [wrap_i64]
      simpa [differP, difP, h, h2] using hK
    · simp [h2]; simpa [differP, h, h2] using hK
  · simp [h]; simpa [differP, h] using hK
def nearB (l t b l' t' b' n : Int) : Bool := shdB l t b && (shdB l' t' b' && decide (difP l t l' t' ≤ n))
theorem dye_Near (hK : K (.bool (nearB l t b l' t' b' n)) H) : VCall tbl lim 80 [.agg [.int .i64 x, .int .i64 l, .int .i64 t, .int .i64 b], .agg [.int .i64 y, .int .i64 l', .int .i64 t', .int .i64 b', .int .i64 n]] H K := by
  refine VCall_fn tbl_at80 rfl ?_
  simp [vf80]
  refine dye_Differ ?_
  by_cases h : shdB l t b = true ∧ shdB l' t' b' = true
  · simp [differP, h]
    simpa [nearB, h] using hK
  · simp [differP, h]
    have e : nearB l t b l' t' b' n = false := by
      cases h1 : shdB l t b <;> cases h2 : shdB l' t' b' <;> simp_all [nearB]
    rw [e] at hK
    simpa using hK
end
end Go.Proofs.Ytkmcdiajcnejiaa.Vm
