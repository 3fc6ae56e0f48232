/- Package dye over the machine: DyeAparts. -/
import Derived.Test.YtkmcdiajcnejiaaBlN
namespace Go.Proofs.Ytkmcdiajcnejiaa.Vm
open Go
set_option maxRecDepth 100000
set_option maxHeartbeats 1000000
set_option linter.unusedSimpArgs false
set_option linter.unusedVariables false
attribute [-simp] List.getD_eq_getElem?_getD
theorem apt_zero {a b : List Prt} (h : bothE a b = 0) : (apO a b).1.1 = 0 ↔ numP a b = 0 := by
  obtain ⟨ba, bb⟩ := bothE_ok h
  rw [apO_ok h]
  simp only
  have hg := gcdD_pos ba bb
  have nr := num_rng ba bb
  constructor
  · intro h0
    apply Classical.byContradiction
    intro hn
    have := (dv_mul hg (show 1 ≤ numP a b by omega) (Nat.gcd_dvd_left _ _)).2
    omega
  · intro h0; rw [h0]; simp
theorem apt_le {a b : List Prt} (h : bothE a b = 0) : (apO a b).1.1 ≤ (apO a b).1.2 := by
  obtain ⟨ba, bb⟩ := bothE_ok h
  rw [apO_ok h]
  simp only
  have hg := gcdD_pos ba bb
  have nr := num_rng ba bb
  have dr := den_rng ba bb
  rw [Int.tdiv_eq_ediv_of_nonneg nr.1, Int.tdiv_eq_ediv_of_nonneg (by omega)]
  exact Int.ediv_le_ediv (by omega) (num_le_den ba bb)
theorem veqA_2y {n : Bool} {a b x y : Int} : veqA n [.int .i64, .int .i64] (.agg [.int .i64 a, .int .i64 b]) (.agg [.int .i64 x, .int .i64 y]) = some (.bool (if n then !(decide (a = x) && decide (b = y)) else (decide (a = x) && decide (b = y)))) := by
  simp only [veqA, eqCells, eqCell, and_self, if_true, Bool.and_true]
  cases n <;> rfl
theorem rd2_0 {a b : V} : rd none [a, b] 0 = some a := Eq.trans rfl rfl
theorem rd2_1 {a b : V} : rd none [a, b] 1 = some b := Eq.trans rfl rfl
section
variable {lim : Nat} {H : Hp} {K : V → Hp → Prop} {v w va vb : V} {l m a b : List Prt} {x y n d : Int}
theorem law_DyeAparts (ha : LstV prC H va a) (hb : LstV prC H vb b) (hlim : lim ≤ H.length) (hK : ∀ H', K (.bool true) H') : VCall tbl lim 5 [va, vb] H K := by
  refine VCall_fn tbl_at5 rfl ?_
  simp [vf5, ha.stor, hb.stor]
  refine law_many ha ?_
  by_cases q1 : 100 < a.length
  · simp [q1]
    refine law_known hlim fun H1 => ?_
    simp; exact hK _
  simp [q1, hb.stor]
  refine law_many hb ?_
  by_cases q2 : 100 < b.length
  · simp [q2]
    refine law_known hlim fun H1 => ?_
    simp; exact hK _
  simp [q2, ha.stor, hb.stor]
  refine dye_Apart ha hb hlim fun H1 x1 => ?_
  replace x1 : HX H H1 := x1
  have l1 := x1.len
  have ha1 := ha.mono x1
  have hb1 := hb.mono x1
  simp [ha.stor, hb.stor, iz2, splice22, rd2w]
  refine ref_Apart ha1 hb1 (by omega) fun H2 x2 => ?_
  replace x2 : HX H1 H2 := x2
  have l2 := x2.len
  have ha2 := ha1.mono x2
  have hb2 := hb1.mono x2
  by_cases he : bothE a b = 0
  case neg =>
    have e2 : ¬ (apO a b).2 = 0 := by rw [apO_err]; exact he
    simp [iz2, splice22, rd2w, veqA_2y, e2]
    refine law_known (by omega) fun H3 => ?_
    simp; exact hK _
  have e2 : (apO a b).2 = 0 := by rw [apO_err]; exact he
  simp [iz2, splice22, rd2w, veqA_2y, e2, ha.stor, hb.stor]
  refine dye_Apart hb2 ha2 (by omega) fun H3 x3 => ?_
  replace x3 : HX H2 H3 := x3
  have l3 := x3.len
  have ha3 := ha2.mono x3
  have hb3 := hb2.mono x3
  rw [apO_comm he]
  simp [iz2, splice22, rd2w, ha.stor]
  refine dye_Normal ha3 (by omega) fun H4 u x4 hu => ?_
  replace x4 : HX H3 H4 := x4
  have l4 := x4.len
  simp [hb.stor]
  refine dye_Normal (hb3.mono x4) (by omega) fun H5 z x5 hz => ?_
  replace x5 : HX H4 H5 := x5
  have l5 := x5.len
  have hu5 := hu.lst.mono x5
  have hbd := apO_bd (a := a) (b := b)
  have hle := apt_le he
  have hzr := apt_zero he
  have n1 := normP_len (l := a)
  have n2 := normP_len (l := b)
  have hiff : (normP a).2 = 0 → (normP b).2 = 0 → ((apO a b).1.1 = 0 ↔ (normP a).1 = (normP b).1) := fun h1 h2 => hzr.trans (num_same h1 h2)
  generalize apO a b = o at *
  obtain ⟨⟨p, q⟩, e⟩ := o
  simp only at hbd hle hiff e2
  subst e2
  have g1 : ¬ p < 0 := by omega
  have g2 : ¬ q < p := by omega
  by_cases h1 : (normP a).2 = 0
  case neg =>
    simp [iz2, splice22, rd2w, rd2_0, rd2_1, veqA_2y, g1, g2, h1]
    refine law_known (Nat.le_refl _) fun H6 => ?_
    simp; exact hK _
  by_cases h2 : (normP b).2 = 0
  case neg =>
    simp [iz2, splice22, rd2w, rd2_0, rd2_1, veqA_2y, g1, g2, h1, h2]
    refine law_known (Nat.le_refl _) fun H6 => ?_
    simp; exact hK _
  have hif := hiff h1 h2
  have hsd : sameP (normP a).1 (normP b).1 = decide (p = 0) := by unfold sameP; simp only [decide_eq_decide]; exact hif.symm
  simp [iz2, splice22, rd2w, rd2_0, rd2_1, veqA_2y, g1, g2, h1, h2, hu5.stor, hz.lst.stor]
  refine ref_SameParts hu5 hz.lst (by omega) (by omega) ?_
  rw [hsd]
  simp
  refine law_known (Nat.le_refl _) fun H6 => ?_
  simp; exact hK _
end
end Go.Proofs.Ytkmcdiajcnejiaa.Vm
