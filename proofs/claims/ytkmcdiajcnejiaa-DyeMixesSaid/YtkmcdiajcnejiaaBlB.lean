/- Package dye over the machine: blends: greatest common divisors, sums, what is valid, what is the same. -/
import Derived.Test.YtkmcdiajcnejiaaBlA
namespace Go.Proofs.Ytkmcdiajcnejiaa.Vm
open Go
set_option maxRecDepth 100000
set_option maxHeartbeats 1000000
set_option linter.unusedSimpArgs false
set_option linter.unusedVariables false
attribute [-simp] List.getD_eq_getElem?_getD
theorem gcd_step {x y : Nat} : Nat.gcd y (x % y) = Nat.gcd x y := by
  rw [Nat.gcd_comm x y, Nat.gcd_rec y x, Nat.gcd_comm]
def totN (l : List Prt) : Nat → Int
  | 0 => 0
  | n + 1 => totN l n + (l.getD n default).w
def totP (l : List Prt) : Int := totN l l.length
theorem totN_bd {l : List Prt} {B : Int} (hB : 0 ≤ B) (h : ∀ i, i < l.length → -B ≤ (l.getD i default).w ∧ (l.getD i default).w ≤ B) : ∀ {n : Nat}, n ≤ l.length → -(B * n) ≤ totN l n ∧ totN l n ≤ B * n
  | 0, _ => by simp [totN]
  | n + 1, hn => by
    have ih := totN_bd hB h (n := n) (by omega)
    have := h n (by omega)
    simp only [totN]
    rw [show ((n + 1 : Nat) : Int) = (n : Int) + 1 from rfl, Int.mul_add, Int.mul_one]
    omega
section
variable {lim : Nat} {H : Hp} {K : V → Hp → Prop} {v w : V} {l m : List Prt}
theorem prt_load (h : LstV prC H v l) {i : Nat} (hi : i < l.length) {L : Lo} : vload (some 4) L H (ept 4 v i) = some (.agg [.int .i64 (l.getD i default).l, .int .i64 (l.getD i default).t, .int .i64 (l.getD i default).b, .int .i64 (l.getD i default).w]) := h.load hi
theorem prt_get (h : LstV prC H v l) {i j : Nat} (hi : i < l.length) (hj : j < 4) {L : Lo} : vload none L H (eptf 4 v i j) = rd none [.int .i64 (l.getD i default).l, .int .i64 (l.getD i default).t, .int .i64 (l.getD i default).b, .int .i64 (l.getD i default).w] j := h.rd1 hi hj
theorem prt_sh (h : LstV prC H v l) {i : Nat} (hi : i < l.length) {L : Lo} : vload (some 3) L H (eptf 4 v i 0) = some (.agg [.int .i64 (l.getD i default).l, .int .i64 (l.getD i default).t, .int .i64 (l.getD i default).b]) := by
  rw [h.rdAt (j := 0) (m := 3) hi (by omega)]; rfl
theorem rd4_3 {a b c d : V} : rd none [a, b, c, d] 3 = some d := Eq.trans rfl rfl
theorem rd43 {a b c d : V} : rd (some 3) [a, b, c, d] 0 = some (.agg [a, b, c]) := Eq.trans rfl rfl
theorem dye_gcd {x y : Nat} (hK : K (.int .i64 (Nat.gcd x y)) H) : VCall tbl lim 55 [.int .i64 x, .int .i64 y] H K := by
  refine VCall_fn tbl_at55 rfl ?_
  simp [vf55]
  refine wLoop_m (n := y) (fun k fr L H' => ∃ a b : Nat, (fr 0 = .int .i64 a ∧ fr 1 = .int .i64 b) ∧ H' = H ∧ Nat.gcd a b = Nat.gcd x y ∧ k = b) ⟨x, y, by simp, rfl, rfl, rfl⟩ ?_
  rintro k fr L H' ⟨a, b, ⟨f0, f1⟩, e0, hg, hk⟩
  have e0 := e0.symm
  subst e0
  by_cases hb : b = 0
  · subst hb
    have hg : a = Nat.gcd x y := by simpa using hg
    rw [← hg] at hK
    simp [f0, f1]
    exact hK
  · have hb2 : ¬ (b : Int) = 0 := by omega
    simp [f0, f1, hb, hb2, tmod_nat]
    exact ⟨a % b, by rw [hk]; exact Nat.mod_lt _ (by omega), b, ⟨rfl, rfl⟩, by rw [gcd_step, hg]⟩
theorem ref_divisor {x y : Nat} (hK : K (.int .i64 (Nat.gcd x y)) H) : VCall tbl lim 57 [.int .i64 x, .int .i64 y] H K := by
  refine VCall_fn tbl_at57 rfl ?_
  simp [vf57]
  refine wLoop_m (n := y) (fun k fr L H' => ∃ a b : Nat, (fr 0 = .int .i64 a ∧ fr 1 = .int .i64 b) ∧ H' = H ∧ Nat.gcd a b = Nat.gcd x y ∧ k = b) ⟨x, y, by simp, rfl, rfl, rfl⟩ ?_
  rintro k fr L H' ⟨a, b, ⟨f0, f1⟩, e0, hg, hk⟩
  have e0 := e0.symm
  subst e0
  by_cases hb : b = 0
  · subst hb
    have hg : a = Nat.gcd x y := by simpa using hg
    rw [← hg] at hK
    simp [f0, f1]
    exact hK
  · have hb2 : ¬ (b : Int) = 0 := by omega
    simp [f0, f1, hb, hb2, tmod_nat]
    exact ⟨a % b, by rw [hk]; exact Nat.mod_lt _ (by omega), b, ⟨rfl, rfl⟩, by rw [gcd_step, hg]⟩
theorem law_many (hv : LstV prC H v l) (hK : K (.bool (decide (100 < l.length))) H) : VCall tbl lim 12 [v] H K := by
  refine VCall_fn tbl_at12 rfl ?_
  have e : decide (100 < (l.length : Int)) = decide (100 < l.length) := by simp only [decide_eq_decide]; omega
  simp [vf12, hv.len, e]
  simpa using hK
theorem blP_arg {i : Nat} (h6 : ¬ 6 < l.length) (h0 : ¬ l.length = 0) (hi : i < l.length) (h : prB (l.getD i default) = false) : blP l = 1 := by
  simp only [blP, h6, h0, if_false, allN_not (f := fun i => prB (l.getD i default)) hi h, if_true]
theorem blP_ok (h : blP l = 0) : l.length ≤ 6 ∧ 0 < l.length ∧ ∀ i, i < l.length → okS (l.getD i default) ∧ 1 ≤ (l.getD i default).w ∧ (l.getD i default).w ≤ 1000 := by
  unfold blP at h
  split at h
  · cases h
  split at h
  · cases h
  split at h
  · cases h
  rename_i h1 h2 h3
  refine ⟨by omega, by omega, fun i hi => ?_⟩
  have := allN_at (by simpa using h3 : allN (fun i => prB (l.getD i default)) l.length = true) hi
  simp only [prB, Bool.and_eq_true, decide_eq_true_eq] at this
  exact ⟨okS_iff.1 this.1, this.2⟩
theorem dye_ValidateBlend (hv : LstV prC H v l) (hK : K (.int .i64 (blP l)) H) : VCall tbl lim 17 [v] H K := by
  refine VCall_fn tbl_at17 rfl ?_
  have e : decide (6 < (l.length : Int)) = decide (6 < l.length) := by simp only [decide_eq_decide]; omega
  by_cases h6 : 6 < l.length
  · simp [vf17, hv.len, e, h6]
    simpa [blP, h6] using hK
  by_cases h0 : l.length = 0
  · simp [vf17, hv.len, e, h6, h0]
    simpa [blP, h6, h0] using hK
  simp [vf17, hv.len, e, h6, h0]
  refine wLoop_up l.length (fun i fr L H' => (fr 11 = v ∧ fr 12 = .int .i64 l.length ∧ fr 13 = .int .i64 i) ∧ H' = H ∧ allN (fun i => prB (l.getD i default)) i = true) ⟨by simp [hv.len], rfl, rfl⟩ ?_
  rintro i hi fr L H' ⟨⟨f11, f12, f13⟩, e0, hz⟩
  have e0 := e0.symm
  subst e0
  simp [f11, f12, f13]
  refine cond_dec (fun ht => ?_) fun hfl => ?_
  · have ht : i < l.length := by omega
    simp (disch := omega) [f11, f12, f13, hv.at ht, prt_load hv, lastO, lastS, splice44, iz4, rd43, rd4_3]
    refine dye_ValidShade ?_
    by_cases hp : prB (l.getD i default) = true
    · have hp2 := hp
      simp only [prB, Bool.and_eq_true, decide_eq_true_eq] at hp2
      have q1 : ¬ (l.getD i default).w < 1 := by omega
      have q2 : ¬ 1000 < (l.getD i default).w := by omega
      simp (disch := omega) [f11, f12, f13, hp2.1, lastO, rd4_3, q1, q2, wrap_i64]
      exact ⟨by omega, by simp only [allN, hz, hp, Bool.and_self]⟩
    · have hp : prB (l.getD i default) = false := by simpa using hp
      rw [blP_arg h6 h0 ht hp] at hK
      cases hs : shdB (l.getD i default).l (l.getD i default).t (l.getD i default).b with
      | false =>
        simp [hs]
        exact hK
      | true =>
        have hp2 : ¬ (1 ≤ (l.getD i default).w ∧ (l.getD i default).w ≤ 1000) := by
          simp only [prB, hs, Bool.true_and, decide_eq_false_iff_not] at hp; exact hp
        by_cases q1 : (l.getD i default).w < 1
        · simp (disch := omega) [f11, f12, f13, hs, lastO, rd4_3, q1]
          exact hK
        · have q2 : 1000 < (l.getD i default).w := by omega
          simp (disch := omega) [f11, f12, f13, hs, lastO, rd4_3, q1, q2]
          exact hK
  · have : i = l.length := by omega
    subst this
    have : blP l = 0 := by simp only [blP, h6, h0, if_false, hz, Bool.true_eq_false]
    rw [this] at hK
    simp
    exact hK
theorem ref_ValidateBlend (hv : LstV prC H v l) (hK : K (.int .i64 (blP l)) H) : VCall tbl lim 18 [v] H K := by
  refine VCall_fn tbl_at18 rfl ?_
  have e : decide (6 < (l.length : Int)) = decide (6 < l.length) := by simp only [decide_eq_decide]; omega
  by_cases h6 : 6 < l.length
  · simp [vf18, hv.len, e, h6]
    simpa [blP, h6] using hK
  by_cases h0 : l.length = 0
  · simp [vf18, hv.len, e, h6, h0]
    simpa [blP, h6, h0] using hK
  simp [vf18, hv.len, e, h6, h0]
  refine wLoop_up l.length (fun i fr L H' => (fr 0 = v ∧ fr 3 = .int .i64 i) ∧ H' = H ∧ allN (fun i => prB (l.getD i default)) i = true) ⟨by simp, rfl, rfl⟩ ?_
  rintro i hi fr L H' ⟨⟨f0, f3⟩, e0, hz⟩
  have e0 := e0.symm
  subst e0
  simp [f0, f3, hv.len]
  refine cond_dec (fun ht => ?_) fun hfl => ?_
  · have ht : i < l.length := by omega
    have fa0 : vfaddr 0 (ept 4 v i) = some (eptf 4 v i 0) := hv.faddr ht
    have fa3 : vfaddr 3 (ept 4 v i) = some (eptf 4 v i 3) := hv.faddr ht
    simp (disch := omega) [f0, f3, hv.at ht, fa0, fa3, prt_sh hv ht, prt_get hv, lpId_ept, lpId_eptf, rd4_3]
    refine ref_ValidShade ?_
    by_cases hp : prB (l.getD i default) = true
    · have hp2 := hp
      simp only [prB, Bool.and_eq_true, decide_eq_true_eq] at hp2
      simp (disch := omega) [f0, f3, hp2.1, hv.at ht, fa0, fa3, prt_get hv, lpId_ept, lpId_eptf, rd4_3]
      refine ref_within ?_
      have q : (decide (1 ≤ (l.getD i default).w ∧ (l.getD i default).w ≤ 1000)) = true := decide_eq_true hp2.2
      rw [q]
      simp (disch := omega) [f0, f3, wrap_i64]
      exact ⟨by omega, by simp only [allN, hz, hp, Bool.and_self]⟩
    · have hp : prB (l.getD i default) = false := by simpa using hp
      rw [blP_arg h6 h0 ht hp] at hK
      cases hs : shdB (l.getD i default).l (l.getD i default).t (l.getD i default).b with
      | false =>
        simp [hs]
        exact hK
      | true =>
        have hp2 : ¬ (1 ≤ (l.getD i default).w ∧ (l.getD i default).w ≤ 1000) := by
          simp only [prB, hs, Bool.true_and, decide_eq_false_iff_not] at hp; exact hp
        simp (disch := omega) [f0, f3, hs, hv.at ht, fa0, fa3, prt_get hv, lpId_ept, lpId_eptf, rd4_3]
        refine ref_within ?_
        rw [decide_eq_false hp2]
        simp
        exact hK
  · have : i = l.length := by omega
    subst this
    have : blP l = 0 := by simp only [blP, h6, h0, if_false, hz, Bool.true_eq_false]
    rw [this] at hK
    simp
    exact hK
theorem dye_total (hv : LstV prC H v l) {B : Int} (hB : 0 ≤ B ∧ B ≤ 1000000000) (hl : l.length ≤ 1000) (hw : ∀ i, i < l.length → -B ≤ (l.getD i default).w ∧ (l.getD i default).w ≤ B) (hK : K (.int .i64 (totP l)) H) : VCall tbl lim 51 [v] H K := by
  refine VCall_fn tbl_at51 rfl ?_
  simp [vf51, hv.len]
  refine wLoop_up l.length (fun i fr L H' => (fr 6 = v ∧ fr 7 = .int .i64 l.length ∧ fr 8 = .int .i64 i ∧ fr 3 = .int .i64 (totN l i)) ∧ H' = H) ⟨by simp [hv.len, totN], rfl⟩ ?_
  rintro i hi fr L H' ⟨⟨f6, f7, f8, f3⟩, e0⟩
  have e0 := e0.symm
  subst e0
  simp [f6, f7, f8, f3]
  refine cond_dec (fun ht => ?_) fun hfl => ?_
  · have ht : i < l.length := by omega
    have b1 := totN_bd hB.1 hw (n := i + 1) (by omega)
    have b2 : B * ((i + 1 : Nat) : Int) ≤ 1000000000 * ((i + 1 : Nat) : Int) := Int.mul_le_mul_of_nonneg_right hB.2 (by omega)
    have e2 : totN l i + (l.getD i default).w = totN l (i + 1) := rfl
    simp (disch := omega) [f6, f7, f8, f3, hv.at ht, prt_load hv, lastO, lastS, splice44, iz4, rd4_3, wrap_i64, e2]
    omega
  · have : i = l.length := by omega
    subst this
    simp [f3]
    exact hK
theorem ref_total (hv : LstV prC H v l) {B : Int} (hB : 0 ≤ B ∧ B ≤ 1000000000) (hl : l.length ≤ 1000) (hw : ∀ i, i < l.length → -B ≤ (l.getD i default).w ∧ (l.getD i default).w ≤ B) (hK : K (.int .i64 (totP l)) H) : VCall tbl lim 53 [v] H K := by
  refine VCall_fn tbl_at53 rfl ?_
  simp [vf53]
  refine wLoop_up l.length (fun i fr L H' => (fr 0 = v ∧ fr 4 = .int .i64 i ∧ fr 3 = .int .i64 (totN l i)) ∧ H' = H) ⟨by simp [totN], rfl⟩ ?_
  rintro i hi fr L H' ⟨⟨f0, f4, f3⟩, e0⟩
  have e0 := e0.symm
  subst e0
  simp [f0, f4, f3, hv.len]
  refine cond_dec (fun ht => ?_) fun hfl => ?_
  · have ht : i < l.length := by omega
    have b1 := totN_bd hB.1 hw (n := i + 1) (by omega)
    have b2 : B * ((i + 1 : Nat) : Int) ≤ 1000000000 * ((i + 1 : Nat) : Int) := Int.mul_le_mul_of_nonneg_right hB.2 (by omega)
    have e2 : totN l i + (l.getD i default).w = totN l (i + 1) := rfl
    have fa3 : vfaddr 3 (ept 4 v i) = some (eptf 4 v i 3) := hv.faddr ht
    simp (disch := omega) [f0, f4, f3, hv.at ht, fa3, prt_get hv, lpId_ept, lpId_eptf, rd4_3, wrap_i64, e2]
    omega
  · have : i = l.length := by omega
    subst this
    simp [f3]
    exact hK
theorem veqA_4 {a b c d x y z w : Int} : veqA true [.int .i64, .int .i64, .int .i64, .int .i64] (.agg [.int .i64 a, .int .i64 b, .int .i64 c, .int .i64 d]) (.agg [.int .i64 x, .int .i64 y, .int .i64 z, .int .i64 w]) = some (.bool (!(decide (a = x) && (decide (b = y) && (decide (c = z) && decide (d = w)))))) := by
  simp only [veqA, eqCells, eqCell, and_self, if_true, Bool.and_true]
  rfl
def eqPr (p q : Prt) : Bool := decide (p.l = q.l) && (decide (p.t = q.t) && (decide (p.b = q.b) && decide (p.w = q.w)))
theorem eqPr_iff {p q : Prt} : eqPr p q = true ↔ p = q := by
  cases p; cases q; simp [eqPr]
def sameP (l m : List Prt) : Bool := decide (l = m)
theorem same_of {l m : List Prt} (h1 : l.length = m.length) (h : ∀ i, i < l.length → l.getD i default = m.getD i default) : l = m := by
  refine List.ext_getElem h1 fun i a b => ?_
  have := h i a
  rw [List.getD_eq_getElem?_getD, List.getD_eq_getElem?_getD, List.getElem?_eq_getElem a, List.getElem?_eq_getElem b] at this
  exact this
theorem ref_SameParts (h1 : LstV prC H v l) (h2 : LstV prC H w m) (hl : l.length ≤ 1000) (hm : m.length ≤ 1000) (hK : K (.bool (sameP l m)) H) : VCall tbl lim 19 [v, w] H K := by
  refine VCall_fn tbl_at19 rfl ?_
  by_cases hlen : l.length = m.length
  case neg =>
    have : sameP l m = false := decide_eq_false fun e => hlen (by rw [e])
    rw [this] at hK
    have d1 : ¬ (l.length : Int) = (m.length : Int) := by omega
    simp [vf19, h1.len, h2.len, hlen, d1]
    exact hK
  simp [vf19, h1.len, h2.len, hlen]
  refine wLoop_up m.length (fun i fr L H' => (fr 0 = v ∧ fr 1 = w ∧ fr 5 = .int .i64 i) ∧ H' = H ∧ ∀ j, j < i → l.getD j default = m.getD j default) ⟨by simp, rfl, fun j hj => by omega⟩ ?_
  rintro i hi fr L H' ⟨⟨f0, f1, f5⟩, e0, hz⟩
  have e0 := e0.symm
  subst e0
  simp [f0, f1, f5, h1.len, hlen]
  refine cond_dec (fun ht => ?_) fun hfl => ?_
  · have ht : i < m.length := by omega
    have ht1 : i < l.length := by omega
    simp (disch := omega) [f0, f1, f5, h1.at ht1, h2.at ht, prt_load h1, prt_load h2, lpId_ept, veqA_4]
    have key : (decide ((l.getD i default).l = (m.getD i default).l) && (decide ((l.getD i default).t = (m.getD i default).t) && (decide ((l.getD i default).b = (m.getD i default).b) && decide ((l.getD i default).w = (m.getD i default).w)))) = eqPr (l.getD i default) (m.getD i default) := rfl
    by_cases he : l.getD i default = m.getD i default
    · simp (disch := omega) [he, f0, f1, f5, wrap_i64]
      refine ⟨by omega, fun j hj => ?_⟩
      by_cases e : j = i
      · subst e; exact he
      · exact hz j (by omega)
    · have hf : eqPr (l.getD i default) (m.getD i default) = false := by
        cases h : eqPr (l.getD i default) (m.getD i default) with
        | false => rfl
        | true => exact absurd (eqPr_iff.1 h) he
      have : sameP l m = false := decide_eq_false fun e => he (by rw [e])
      rw [this] at hK
      rw [hf] at key
      have k2 : (!decide ((l.getD i default).l = (m.getD i default).l) || (!decide ((l.getD i default).t = (m.getD i default).t) || (!decide ((l.getD i default).b = (m.getD i default).b) || !decide ((l.getD i default).w = (m.getD i default).w)))) = true := by
        rw [← Bool.not_and, ← Bool.not_and, ← Bool.not_and, key]; rfl
      refine cond_bool (fun _ => ?_) fun h => ?_
      · simp; exact hK
      · exfalso
        first
          | (rw [k2] at h; simp at h; done)
          | (simp at h k2; omega)
  · have : i = m.length := by omega
    subst this
    have : sameP l m = true := decide_eq_true (same_of hlen fun j hj => hz j (by omega))
    rw [this] at hK
    simp
    exact hK
end
end Go.Proofs.Ytkmcdiajcnejiaa.Vm
