/- Laws of knot over the machine: KnotWorks, KnotSupplies. -/
import Derived.Test.YtakbcmofgfjeiaaKnU
namespace Go.Proofs.Ytakbcmofgfjeiaa.Vm
open Go
set_option maxRecDepth 100000
set_option linter.unusedSimpArgs false
set_option linter.unusedVariables false
attribute [-simp] List.getD_eq_getElem?_getD

/-- an error of a list of zones, of a number -/
def limE (a b : Int) (l : List Zn) (r : Int) : Int := if zsErr l = 0 then (if r < a ∨ b < r then 1 else 0) else zsErr l
def minP (l : List Zn) (r : Int) : Int := if limE 1 3000 l r = 0 then (30 * sumF Zn.zw l + r - 1).tdiv r else 0
def wagP (l : List Zn) (r : Int) : Int := if limE 0 10000 l r = 0 then
  (let n := sumF Zn.zw l * r
   if 100 < n.tmod 200 ∨ (n.tmod 200 = 100 ∧ (n.tdiv 200).tmod 2 = 1) then n.tdiv 200 + 1 else n.tdiv 200) else 0
theorem zw_sum_bd {l : List Zn} (hz : zsErr l = 0) : 0 ≤ sumF Zn.zw l ∧ sumF Zn.zw l ≤ 62400000 := by
  have h8 := (zs_ok hz).1
  have := sumF_bd zw_bd (l := l) l.length (Nat.le_refl _)
  rw [List.take_length] at this
  omega
theorem zh_sum_bd {l : List Zn} (hz : zsErr l = 0) : 0 ≤ sumF Zn.zh l ∧ sumF Zn.zh l ≤ 192001600000000 := by
  have h8 := (zs_ok hz).1
  have := sumF_bd zh_bd (l := l) l.length (Nat.le_refl _)
  rw [List.take_length] at this
  omega

section
variable {lim : Nat} {H : Hp} {K : V → Hp → Prop} {v : V} {l : List Zn} {r : Int}

theorem tdiv_bd {n d : Int} (hn : 0 ≤ n) (hd : 0 < d) : 0 ≤ n.tdiv d ∧ n.tdiv d ≤ n := by
  obtain ⟨a, rfl⟩ := Int.eq_ofNat_of_zero_le hn
  obtain ⟨b, rfl⟩ := Int.eq_ofNat_of_zero_le (Int.le_of_lt hd)
  rw [tdiv_nat]
  have := Nat.div_le_self a b
  refine ⟨Int.natCast_nonneg _, ?_⟩
  exact Int.ofNat_le.2 this

theorem knot_Minutes (hv : ZonV H v l) (hr : I64 r) (hK : K (.tup [.int .i64 (minP l r), .int .i64 (limE 1 3000 l r)]) H) : VCall tbl lim 50 [v, .int .i64 r] H K := by
  refine VCall_fn tbl_at50 rfl ?_
  simp [vf50, hv.stor]
  refine knot_addAll hv (fun hz => ?_) fun hz => ?_
  · simp [hz]
    simpa [minP, limE, hz] using hK
  · have b := zw_sum_bd hz
    simp
    refine cond_bool (fun h => ?_) fun h => ?_
    · have h : r < 1 ∨ 3000 < r := by simpa using h
      simp
      simpa [minP, limE, hz, h] using hK
    · have h : ¬ (r < 1 ∨ 3000 < r) := by simp at h; omega
      have t := tdiv_bd (n := 30 * sumF Zn.zw l + r - 1) (d := r) (by omega) (by omega)
      simp (disch := omega) [wrap_i64, Int.mul_comm (sumF Zn.zw l) 30]
      simpa [minP, limE, hz, h] using hK

theorem ref_Minutes (hv : ZonV H v l) (hlim : lim ≤ H.length) (hr : I64 r) (hK : ∀ H', HX H H' → K (.tup [.int .i64 (minP l r), .int .i64 (limE 1 3000 l r)]) H') : VCall tbl lim 51 [v, .int .i64 r] H K := by
  refine VCall_fn tbl_at51 rfl ?_
  simp [vf51, hv.stor]
  refine ref_zones hv ?_
  by_cases hz : zsErr l = 0
  · have b := zw_sum_bd hz
    simp [hz]
    refine cond_bool (fun h => ?_) fun h => ?_
    · have h : r < 1 ∨ 3000 < r := by simpa using h
      simp
      simpa [minP, limE, hz, h] using hK _ .refl
    · have h : ¬ (r < 1 ∨ 3000 < r) := by simp at h; omega
      have t := tdiv_bd (n := 30 * sumF Zn.zw l + r - 1) (d := r) (by omega) (by omega)
      simp [hv.stor]
      refine ref_work hv hz hlim fun H1 x1 => ?_
      simp (disch := omega) [wrap_i64]
      simpa [minP, limE, hz, h] using hK _ x1
  · simp [hz]
    simpa [minP, limE, hz] using hK _ .refl

theorem knot_Wage (hv : ZonV H v l) (hr : I64 r) (hK : K (.tup [.int .i64 (wagP l r), .int .i64 (limE 0 10000 l r)]) H) : VCall tbl lim 52 [v, .int .i64 r] H K := by
  refine VCall_fn tbl_at52 rfl ?_
  simp [vf52, hv.stor]
  refine knot_addAll hv (fun hz => ?_) fun hz => ?_
  · simp [hz]
    simpa [wagP, limE, hz] using hK
  · have b := zw_sum_bd hz
    simp
    refine cond_bool (fun h => ?_) fun h => ?_
    · have h : r < 0 ∨ 10000 < r := by simpa using h
      simp
      simpa [wagP, limE, hz, h] using hK
    · have h : ¬ (r < 0 ∨ 10000 < r) := by simp at h; omega
      have m := mul_bd (a := sumF Zn.zw l) (b := r) (A := 62400000) (B := 10000) b (by omega)
      have t := tdiv_bd (n := sumF Zn.zw l * r) (d := 200) (by omega) (by omega)
      simp only [wagP, limE, hz, h, if_true, if_false] at hK
      generalize hn : sumF Zn.zw l * r = n at *
      by_cases h1 : 100 < n.tmod 200 <;> by_cases h2 : n.tmod 200 = 100 <;> by_cases h3 : (n.tdiv 200).tmod 2 = 1 <;>
        first | omega | (simp (disch := omega) [wrap_i64, hn, h1, h2, h3]; simpa [h1, h2, h3] using hK)

theorem ref_Wage (hv : ZonV H v l) (hlim : lim ≤ H.length) (hr : I64 r) (hK : ∀ H', HX H H' → K (.tup [.int .i64 (wagP l r), .int .i64 (limE 0 10000 l r)]) H') : VCall tbl lim 53 [v, .int .i64 r] H K := by
  refine VCall_fn tbl_at53 rfl ?_
  simp [vf53, hv.stor]
  refine ref_zones hv ?_
  by_cases hz : zsErr l = 0
  · have b := zw_sum_bd hz
    simp [hz]
    refine cond_bool (fun h => ?_) fun h => ?_
    · have h : r < 0 ∨ 10000 < r := by simpa using h
      simp
      simpa [wagP, limE, hz, h] using hK _ .refl
    · have h : ¬ (r < 0 ∨ 10000 < r) := by simp at h; omega
      have m := mul_bd (a := sumF Zn.zw l) (b := r) (A := 62400000) (B := 10000) b (by omega)
      have t := tdiv_bd (n := sumF Zn.zw l * r) (d := 200) (by omega) (by omega)
      simp [hv.stor]
      refine ref_work hv hz hlim fun H1 x1 => ?_
      simp only [wagP, limE, hz, h, if_true, if_false] at hK
      generalize hn : sumF Zn.zw l * r = n at *
      have hK := hK _ x1
      by_cases h1 : 100 < n.tmod 200 <;> by_cases h2 : n.tmod 200 = 100 <;> by_cases h3 : (n.tdiv 200).tmod 2 = 1 <;>
        first | omega | (simp (disch := omega) [wrap_i64, hn, h1, h2, h3]; simpa [h1, h2, h3] using hK)
  · simp [hz]
    simpa [wagP, limE, hz] using hK _ .refl

theorem law_KnotWorks {f : Int} (hv : ZonV H v l) (hlim : lim ≤ H.length) (hr : I64 r) (hf : I64 f) (hK : ∀ H', K (.bool true) H') : VCall tbl lim 16 [v, .int .i64 r, .int .i64 f] H K := by
  refine VCall_fn tbl_at16 rfl ?_
  simp [vf16, hv.len, hv.stor]
  refine cond_dec (fun h => ?_) fun h => ?_
  · simp
    refine law_known hlim fun H1 _ => ?_
    simp; exact hK _
  simp [hv.stor]
  refine knot_Minutes hv hr ?_
  simp [hv.stor]
  refine ref_Minutes hv hlim hr fun H1 x1 => ?_
  replace x1 : HX H H1 := x1
  have l1 := x1.len
  simp [hv.stor]
  refine knot_Wage (hv.mono x1) hf ?_
  simp [hv.stor]
  refine ref_Wage (hv.mono x1) (by omega) hf fun H2 x2 => ?_
  replace x2 : HX H1 H2 := x2
  have l2 := x2.len
  simp
  refine law_known (by omega) fun H3 _ => ?_
  simp
  exact hK _
end
end Go.Proofs.Ytakbcmofgfjeiaa.Vm
