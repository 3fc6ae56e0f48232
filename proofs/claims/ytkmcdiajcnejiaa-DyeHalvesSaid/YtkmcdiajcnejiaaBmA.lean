/- BlB to BlF in one text (a claim has at most 60 files). -/
import Derived.Test.YtkmcdiajcnejiaaBlA
import Derived.Test.YtkmcdiajcnejiaaSdE
namespace Go.Proofs.Ytkmcdiajcnejiaa.Vm
open Go
set_option maxRecDepth 100000
set_option maxHeartbeats 1000000
set_option linter.unusedSimpArgs false
set_option linter.unusedVariables false
attribute [-simp] List.getD_eq_getElem?_getD
theorem gcd_step {x y : Nat} : Nat.gcd y (x % y) = Nat.gcd x y := by
  rw [Nat.gcd_comm x y, Nat.gcd_rec y x, Nat.gcd_comm]
def totN (l : List Prt) : Nat → Int
  | 0 => 0
  | n + 1 => totN l n + (l.getD n default).w
def totP (l : List Prt) : Int := totN l l.length
theorem totN_bd {l : List Prt} {B : Int} (hB : 0 ≤ B) (h : ∀ i, i < l.length → -B ≤ (l.getD i default).w ∧ (l.getD i default).w ≤ B) : ∀ {n : Nat}, n ≤ l.length → -(B * n) ≤ totN l n ∧ totN l n ≤ B * n
  | 0, _ => by simp [totN]
  | n + 1, hn => by
    have ih := totN_bd hB h (n := n) (by omega)
    have := h n (by omega)
    simp only [totN]
    rw [show ((n + 1 : Nat) : Int) = (n : Int) + 1 from rfl, Int.mul_add, Int.mul_one]
    omega
section
variable {lim : Nat} {H : Hp} {K : V → Hp → Prop} {v w : V} {l m : List Prt}
theorem prt_load (h : LstV prC H v l) {i : Nat} (hi : i < l.length) {L : Lo} : vload (some 4) L H (ept 4 v i) = some (.agg [.int .i64 (l.getD i default).l, .int .i64 (l.getD i default).t, .int .i64 (l.getD i default).b, .int .i64 (l.getD i default).w]) := h.load hi
theorem prt_get (h : LstV prC H v l) {i j : Nat} (hi : i < l.length) (hj : j < 4) {L : Lo} : vload none L H (eptf 4 v i j) = rd none [.int .i64 (l.getD i default).l, .int .i64 (l.getD i default).t, .int .i64 (l.getD i default).b, .int .i64 (l.getD i default).w] j := h.rd1 hi hj
theorem prt_sh (h : LstV prC H v l) {i : Nat} (hi : i < l.length) {L : Lo} : vload (some 3) L H (eptf 4 v i 0) = some (.agg [.int .i64 (l.getD i default).l, .int .i64 (l.getD i default).t, .int .i64 (l.getD i default).b]) := by
  rw [h.rdAt (j := 0) (m := 3) hi (by omega)]; rfl
theorem rd4_3 {a b c d : V} : rd none [a, b, c, d] 3 = some d := Eq.trans rfl rfl
theorem rd43 {a b c d : V} : rd (some 3) [a, b, c, d] 0 = some (.agg [a, b, c]) := Eq.trans rfl rfl
theorem dye_gcd {x y : Nat} (hK : K (.int .i64 (Nat.gcd x y)) H) : VCall tbl lim 55 [.int .i64 x, .int .i64 y] H K := by
  refine VCall_fn tbl_at55 rfl ?_
  simp [vf55]
  refine wLoop_m (n := y) (fun k fr L H' => ∃ a b : Nat, (fr 0 = .int .i64 a ∧ fr 1 = .int .i64 b) ∧ H' = H ∧ Nat.gcd a b = Nat.gcd x y ∧ k = b) ⟨x, y, by simp, rfl, rfl, rfl⟩ ?_
  rintro k fr L H' ⟨a, b, ⟨f0, f1⟩, e0, hg, hk⟩
  have e0 := e0.symm
  subst e0
  by_cases hb : b = 0
  · subst hb
    have hg : a = Nat.gcd x y := by simpa using hg
    rw [← hg] at hK
    simp [f0, f1]
    exact hK
  · have hb2 : ¬ (b : Int) = 0 := by omega
    simp [f0, f1, hb, hb2, tmod_nat]
    exact ⟨a % b, by rw [hk]; exact Nat.mod_lt _ (by omega), b, ⟨rfl, rfl⟩, by rw [gcd_step, hg]⟩
theorem ref_divisor {x y : Nat} (hK : K (.int .i64 (Nat.gcd x y)) H) : VCall tbl lim 57 [.int .i64 x, .int .i64 y] H K := by
  refine VCall_fn tbl_at57 rfl ?_
  simp [vf57]
  refine wLoop_m (n := y) (fun k fr L H' => ∃ a b : Nat, (fr 0 = .int .i64 a ∧ fr 1 = .int .i64 b) ∧ H' = H ∧ Nat.gcd a b = Nat.gcd x y ∧ k = b) ⟨x, y, by simp, rfl, rfl, rfl⟩ ?_
  rintro k fr L H' ⟨a, b, ⟨f0, f1⟩, e0, hg, hk⟩
  have e0 := e0.symm
  subst e0
  by_cases hb : b = 0
  · subst hb
    have hg : a = Nat.gcd x y := by simpa using hg
    rw [← hg] at hK
    simp [f0, f1]
    exact hK
  · have hb2 : ¬ (b : Int) = 0 := by omega
    simp [f0, f1, hb, hb2, tmod_nat]
    exact ⟨a % b, by rw [hk]; exact Nat.mod_lt _ (by omega), b, ⟨rfl, rfl⟩, by rw [gcd_step, hg]⟩
theorem law_many (hv : LstV prC H v l) (hK : K (.bool (decide (100 < l.length))) H) : VCall tbl lim 12 [v] H K := by
  refine VCall_fn tbl_at12 rfl ?_
  have e : decide (100 < (l.length : Int)) = decide (100 < l.length) := by simp only [decide_eq_decide]; omega
  simp [vf12, hv.len, e]
  simpa using hK
theorem blP_arg {i : Nat} (h6 : ¬ 6 < l.length) (h0 : ¬ l.length = 0) (hi : i < l.length) (h : prB (l.getD i default) = false) : blP l = 1 := by
  simp only [blP, h6, h0, if_false, allN_not (f := fun i => prB (l.getD i default)) hi h, if_true]
theorem blP_ok (h : blP l = 0) : l.length ≤ 6 ∧ 0 < l.length ∧ ∀ i, i < l.length → okS (l.getD i default) ∧ 1 ≤ (l.getD i default).w ∧ (l.getD i default).w ≤ 1000 := by
  unfold blP at h
  split at h
  · cases h
  split at h
  · cases h
  split at h
  · cases h
  rename_i h1 h2 h3
  refine ⟨by omega, by omega, fun i hi => ?_⟩
  have := allN_at (by simpa using h3 : allN (fun i => prB (l.getD i default)) l.length = true) hi
  simp only [prB, Bool.and_eq_true, decide_eq_true_eq] at this
  exact ⟨okS_iff.1 this.1, this.2⟩
theorem dye_ValidateBlend (hv : LstV prC H v l) (hK : K (.int .i64 (blP l)) H) : VCall tbl lim 17 [v] H K := by
  refine VCall_fn tbl_at17 rfl ?_
  have e : decide (6 < (l.length : Int)) = decide (6 < l.length) := by simp only [decide_eq_decide]; omega
  by_cases h6 : 6 < l.length
  · simp [vf17, hv.len, e, h6]
    simpa [blP, h6] using hK
  by_cases h0 : l.length = 0
  · simp [vf17, hv.len, e, h6, h0]
    simpa [blP, h6, h0] using hK
  simp [vf17, hv.len, e, h6, h0]
  refine wLoop_up l.length (fun i fr L H' => (fr 11 = v ∧ fr 12 = .int .i64 l.length ∧ fr 13 = .int .i64 i) ∧ H' = H ∧ allN (fun i => prB (l.getD i default)) i = true) ⟨by simp [hv.len], rfl, rfl⟩ ?_
  rintro i hi fr L H' ⟨⟨f11, f12, f13⟩, e0, hz⟩
  have e0 := e0.symm
  subst e0
  simp [f11, f12, f13]
  refine cond_dec (fun ht => ?_) fun hfl => ?_
  · have ht : i < l.length := by omega
    simp (disch := omega) [f11, f12, f13, hv.at ht, prt_load hv, lastO, lastS, splice44, iz4, rd43, rd4_3]
    refine dye_ValidShade ?_
    by_cases hp : prB (l.getD i default) = true
    · have hp2 := hp
      simp only [prB, Bool.and_eq_true, decide_eq_true_eq] at hp2
      have q1 : ¬ (l.getD i default).w < 1 := by omega
      have q2 : ¬ 1000 < (l.getD i default).w := by omega
      simp (disch := omega) [f11, f12, f13, hp2.1, lastO, rd4_3, q1, q2, wrap_i64]
      exact ⟨by omega, by simp only [allN, hz, hp, Bool.and_self]⟩
    · have hp : prB (l.getD i default) = false := by simpa using hp
      rw [blP_arg h6 h0 ht hp] at hK
      cases hs : shdB (l.getD i default).l (l.getD i default).t (l.getD i default).b with
      | false =>
        simp [hs]
        exact hK
      | true =>
        have hp2 : ¬ (1 ≤ (l.getD i default).w ∧ (l.getD i default).w ≤ 1000) := by
          simp only [prB, hs, Bool.true_and, decide_eq_false_iff_not] at hp; exact hp
        by_cases q1 : (l.getD i default).w < 1
        · simp (disch := omega) [f11, f12, f13, hs, lastO, rd4_3, q1]
          exact hK
        · have q2 : 1000 < (l.getD i default).w := by omega
          simp (disch := omega) [f11, f12, f13, hs, lastO, rd4_3, q1, q2]
          exact hK
  · have : i = l.length := by omega
    subst this
    have : blP l = 0 := by simp only [blP, h6, h0, if_false, hz, Bool.true_eq_false]
    rw [this] at hK
    simp
    exact hK
theorem ref_ValidateBlend (hv : LstV prC H v l) (hK : K (.int .i64 (blP l)) H) : VCall tbl lim 18 [v] H K := by
  refine VCall_fn tbl_at18 rfl ?_
  have e : decide (6 < (l.length : Int)) = decide (6 < l.length) := by simp only [decide_eq_decide]; omega
  by_cases h6 : 6 < l.length
  · simp [vf18, hv.len, e, h6]
    simpa [blP, h6] using hK
  by_cases h0 : l.length = 0
  · simp [vf18, hv.len, e, h6, h0]
    simpa [blP, h6, h0] using hK
  simp [vf18, hv.len, e, h6, h0]
  refine wLoop_up l.length (fun i fr L H' => (fr 0 = v ∧ fr 3 = .int .i64 i) ∧ H' = H ∧ allN (fun i => prB (l.getD i default)) i = true) ⟨by simp, rfl, rfl⟩ ?_
  rintro i hi fr L H' ⟨⟨f0, f3⟩, e0, hz⟩
  have e0 := e0.symm
  subst e0
  simp [f0, f3, hv.len]
  refine cond_dec (fun ht => ?_) fun hfl => ?_
  · have ht : i < l.length := by omega
    have fa0 : vfaddr 0 (ept 4 v i) = some (eptf 4 v i 0) := hv.faddr ht
    have fa3 : vfaddr 3 (ept 4 v i) = some (eptf 4 v i 3) := hv.faddr ht
    simp (disch := omega) [f0, f3, hv.at ht, fa0, fa3, prt_sh hv ht, prt_get hv, lpId_ept, lpId_eptf, rd4_3]
    refine ref_ValidShade ?_
    by_cases hp : prB (l.getD i default) = true
    · have hp2 := hp
      simp only [prB, Bool.and_eq_true, decide_eq_true_eq] at hp2
      simp (disch := omega) [f0, f3, hp2.1, hv.at ht, fa0, fa3, prt_get hv, lpId_ept, lpId_eptf, rd4_3]
      refine ref_within ?_
      have q : (decide (1 ≤ (l.getD i default).w ∧ (l.getD i default).w ≤ 1000)) = true := decide_eq_true hp2.2
      rw [q]
      simp (disch := omega) [f0, f3, wrap_i64]
      exact ⟨by omega, by simp only [allN, hz, hp, Bool.and_self]⟩
    · have hp : prB (l.getD i default) = false := by simpa using hp
      rw [blP_arg h6 h0 ht hp] at hK
      cases hs : shdB (l.getD i default).l (l.getD i default).t (l.getD i default).b with
      | false =>
        simp [hs]
        exact hK
      | true =>
        have hp2 : ¬ (1 ≤ (l.getD i default).w ∧ (l.getD i default).w ≤ 1000) := by
          simp only [prB, hs, Bool.true_and, decide_eq_false_iff_not] at hp; exact hp
        simp (disch := omega) [f0, f3, hs, hv.at ht, fa0, fa3, prt_get hv, lpId_ept, lpId_eptf, rd4_3]
        refine ref_within ?_
        rw [decide_eq_false hp2]
        simp
        exact hK
  · have : i = l.length := by omega
    subst this
    have : blP l = 0 := by simp only [blP, h6, h0, if_false, hz, Bool.true_eq_false]
    rw [this] at hK
    simp
    exact hK
theorem dye_total (hv : LstV prC H v l) {B : Int} (hB : 0 ≤ B ∧ B ≤ 1000000000) (hl : l.length ≤ 1000) (hw : ∀ i, i < l.length → -B ≤ (l.getD i default).w ∧ (l.getD i default).w ≤ B) (hK : K (.int .i64 (totP l)) H) : VCall tbl lim 51 [v] H K := by
  refine VCall_fn tbl_at51 rfl ?_
  simp [vf51, hv.len]
  refine wLoop_up l.length (fun i fr L H' => (fr 6 = v ∧ fr 7 = .int .i64 l.length ∧ fr 8 = .int .i64 i ∧ fr 3 = .int .i64 (totN l i)) ∧ H' = H) ⟨by simp [hv.len, totN], rfl⟩ ?_
  rintro i hi fr L H' ⟨⟨f6, f7, f8, f3⟩, e0⟩
  have e0 := e0.symm
  subst e0
  simp [f6, f7, f8, f3]
  refine cond_dec (fun ht => ?_) fun hfl => ?_
  · have ht : i < l.length := by omega
    have b1 := totN_bd hB.1 hw (n := i + 1) (by omega)
    have b2 : B * ((i + 1 : Nat) : Int) ≤ 1000000000 * ((i + 1 : Nat) : Int) := Int.mul_le_mul_of_nonneg_right hB.2 (by omega)
    have e2 : totN l i + (l.getD i default).w = totN l (i + 1) := rfl
    simp (disch := omega) [f6, f7, f8, f3, hv.at ht, prt_load hv, lastO, lastS, splice44, iz4, rd4_3, wrap_i64, e2]
    omega
  · have : i = l.length := by omega
    subst this
    simp [f3]
    exact hK
theorem ref_total (hv : LstV prC H v l) {B : Int} (hB : 0 ≤ B ∧ B ≤ 1000000000) (hl : l.length ≤ 1000) (hw : ∀ i, i < l.length → -B ≤ (l.getD i default).w ∧ (l.getD i default).w ≤ B) (hK : K (.int .i64 (totP l)) H) : VCall tbl lim 53 [v] H K := by
  refine VCall_fn tbl_at53 rfl ?_
  simp [vf53]
  refine wLoop_up l.length (fun i fr L H' => (fr 0 = v ∧ fr 4 = .int .i64 i ∧ fr 3 = .int .i64 (totN l i)) ∧ H' = H) ⟨by simp [totN], rfl⟩ ?_
  rintro i hi fr L H' ⟨⟨f0, f4, f3⟩, e0⟩
  have e0 := e0.symm
  subst e0
  simp [f0, f4, f3, hv.len]
  refine cond_dec (fun ht => ?_) fun hfl => ?_
  · have ht : i < l.length := by omega
    have b1 := totN_bd hB.1 hw (n := i + 1) (by omega)
    have b2 : B * ((i + 1 : Nat) : Int) ≤ 1000000000 * ((i + 1 : Nat) : Int) := Int.mul_le_mul_of_nonneg_right hB.2 (by omega)
    have e2 : totN l i + (l.getD i default).w = totN l (i + 1) := rfl
    have fa3 : vfaddr 3 (ept 4 v i) = some (eptf 4 v i 3) := hv.faddr ht
    simp (disch := omega) [f0, f4, f3, hv.at ht, fa3, prt_get hv, lpId_ept, lpId_eptf, rd4_3, wrap_i64, e2]
    omega
  · have : i = l.length := by omega
    subst this
    simp [f3]
    exact hK
theorem veqA_4 {a b c d x y z w : Int} : veqA true [.int .i64, .int .i64, .int .i64, .int .i64] (.agg [.int .i64 a, .int .i64 b, .int .i64 c, .int .i64 d]) (.agg [.int .i64 x, .int .i64 y, .int .i64 z, .int .i64 w]) = some (.bool (!(decide (a = x) && (decide (b = y) && (decide (c = z) && decide (d = w)))))) := by
  simp only [veqA, eqCells, eqCell, and_self, if_true, Bool.and_true]
  rfl
def eqPr (p q : Prt) : Bool := decide (p.l = q.l) && (decide (p.t = q.t) && (decide (p.b = q.b) && decide (p.w = q.w)))
theorem eqPr_iff {p q : Prt} : eqPr p q = true ↔ p = q := by
  cases p; cases q; simp [eqPr]
def sameP (l m : List Prt) : Bool := decide (l = m)
theorem same_of {l m : List Prt} (h1 : l.length = m.length) (h : ∀ i, i < l.length → l.getD i default = m.getD i default) : l = m := by
  refine List.ext_getElem h1 fun i a b => ?_
  have := h i a
  rw [List.getD_eq_getElem?_getD, List.getD_eq_getElem?_getD, List.getElem?_eq_getElem a, List.getElem?_eq_getElem b] at this
  exact this
theorem ref_SameParts (h1 : LstV prC H v l) (h2 : LstV prC H w m) (hl : l.length ≤ 1000) (hm : m.length ≤ 1000) (hK : K (.bool (sameP l m)) H) : VCall tbl lim 19 [v, w] H K := by
  refine VCall_fn tbl_at19 rfl ?_
  by_cases hlen : l.length = m.length
  case neg =>
    have : sameP l m = false := decide_eq_false fun e => hlen (by rw [e])
    rw [this] at hK
    have d1 : ¬ (l.length : Int) = (m.length : Int) := by omega
    simp [vf19, h1.len, h2.len, hlen, d1]
    exact hK
  simp [vf19, h1.len, h2.len, hlen]
  refine wLoop_up m.length (fun i fr L H' => (fr 0 = v ∧ fr 1 = w ∧ fr 5 = .int .i64 i) ∧ H' = H ∧ ∀ j, j < i → l.getD j default = m.getD j default) ⟨by simp, rfl, fun j hj => by omega⟩ ?_
  rintro i hi fr L H' ⟨⟨f0, f1, f5⟩, e0, hz⟩
  have e0 := e0.symm
  subst e0
  simp [f0, f1, f5, h1.len, hlen]
  refine cond_dec (fun ht => ?_) fun hfl => ?_
  · have ht : i < m.length := by omega
    have ht1 : i < l.length := by omega
    simp (disch := omega) [f0, f1, f5, h1.at ht1, h2.at ht, prt_load h1, prt_load h2, lpId_ept, veqA_4]
    have key : (decide ((l.getD i default).l = (m.getD i default).l) && (decide ((l.getD i default).t = (m.getD i default).t) && (decide ((l.getD i default).b = (m.getD i default).b) && decide ((l.getD i default).w = (m.getD i default).w)))) = eqPr (l.getD i default) (m.getD i default) := rfl
    by_cases he : l.getD i default = m.getD i default
    · simp (disch := omega) [he, f0, f1, f5, wrap_i64]
      refine ⟨by omega, fun j hj => ?_⟩
      by_cases e : j = i
      · subst e; exact he
      · exact hz j (by omega)
    · have hf : eqPr (l.getD i default) (m.getD i default) = false := by
        cases h : eqPr (l.getD i default) (m.getD i default) with
        | false => rfl
        | true => exact absurd (eqPr_iff.1 h) he
      have : sameP l m = false := decide_eq_false fun e => he (by rw [e])
      rw [this] at hK
      rw [hf] at key
      have k2 : (!decide ((l.getD i default).l = (m.getD i default).l) || (!decide ((l.getD i default).t = (m.getD i default).t) || (!decide ((l.getD i default).b = (m.getD i default).b) || !decide ((l.getD i default).w = (m.getD i default).w)))) = true := by
        rw [← Bool.not_and, ← Bool.not_and, ← Bool.not_and, key]; rfl
      refine cond_bool (fun _ => ?_) fun h => ?_
      · simp; exact hK
      · exfalso
        first
          | (rw [k2] at h; simp at h; done)
          | (simp at h k2; omega)
  · have : i = m.length := by omega
    subst this
    have : sameP l m = true := decide_eq_true (same_of hlen fun j hj => hz j (by omega))
    rw [this] at hK
    simp
    exact hK
end
def cmpZ (a b : Int) : Int := if a < b then -1 else if b < a then 1 else 0
def ptCf (x y : Prt) : Int := if cmpZ x.l y.l ≠ 0 then cmpZ x.l y.l else if cmpZ x.t y.t ≠ 0 then cmpZ x.t y.t else cmpZ x.b y.b
theorem ptCf_le {x y : Prt} : leC ptCf x y ↔ x.l < y.l ∨ (x.l = y.l ∧ (x.t < y.t ∨ (x.t = y.t ∧ x.b ≤ y.b))) := by
  unfold leC ptCf cmpZ
  repeat' split
  all_goals omega
theorem ptCf_ordr : Ordr ptCf := ⟨fun x y z h1 h2 => by rw [ptCf_le] at *; omega, fun x y => by rw [ptCf_le, ptCf_le]; omega⟩
theorem ptCf_num {x y : Prt} (hx : okS x) (hy : okS y) (h : leC ptCf x y) : numS x ≤ numS y := by
  rw [ptCf_le] at h
  unfold okS at hx hy
  unfold numS
  omega
/-- a slice of slices -/
def vC : Cod V 1 := ⟨fun v => [v], fun _ => rfl⟩
section
variable {lim : Nat} {H : Hp} {K : V → Hp → Prop} {v w : V} {l m : List Prt} {x y u1 u2 u3 : Int}
theorem cmp_isNaN (hK : K (.bool false) H) : VCall tbl lim 110 [.int .i64 x] H K := by
  refine VCall_fn tbl_at110 rfl ?_
  simp [vf110]
  exact hK
theorem cmp_CompareZ (hK : K (.int .i64 (cmpZ x y)) H) : VCall tbl lim 95 [.int .i64 x, .int .i64 y] H K := by
  refine VCall_fn tbl_at95 rfl ?_
  simp [vf95]
  refine cmp_isNaN ?_
  simp
  refine cmp_isNaN ?_
  simp
  refine cond_dec (fun h => ?_) fun h => ?_
  · simp; simpa [cmpZ, h] using hK
  · simp
    refine cond_dec (fun h2 => ?_) fun h2 => ?_
    · simp; simpa [cmpZ, h, h2] using hK
    · simp; simpa [cmpZ, h, h2] using hK
theorem cmp_Or3 (hs : SlV H v [u1, u2, u3]) (hK : K (.int .i64 (if u1 ≠ 0 then u1 else if u2 ≠ 0 then u2 else u3)) H) : VCall tbl lim 94 [v] H K := by
  refine VCall_fn tbl_at94 rfl ?_
  have a0 := hs.addr (i := 0) (by simp)
  have a1 := hs.addr (i := 1) (by simp)
  have a2 := hs.addr (i := 2) (by simp)
  have g0 := hs.load (L := []) (i := 0) (by simp)
  have g1 := hs.load (L := []) (i := 1) (by simp)
  have g2 := hs.load (L := []) (i := 2) (by simp)
  simp [List.getD_eq_getElem?_getD] at a0 a1 a2 g0 g1 g2
  by_cases h : u1 = 0
  · subst h
    simp only [ne_eq, not_true_eq_false, if_false] at hK
    by_cases h2 : u2 = 0
    · subst h2
      simp only [ne_eq, not_true_eq_false, if_false] at hK
      by_cases h3 : u3 = 0
      · subst h3
        simp [vf94, hs.len]
        refine wLoop_round ?_
        simp [a0, g0, wrap_i64]
        refine wLoop_round ?_
        simp [a1, g1, wrap_i64]
        refine wLoop_round ?_
        simp [a2, g2, wrap_i64]
        refine wLoop_round ?_
        simp
        exact hK
      · simp [vf94, hs.len]
        refine wLoop_round ?_
        simp [a0, g0, wrap_i64]
        refine wLoop_round ?_
        simp [a1, g1, wrap_i64]
        refine wLoop_round ?_
        simp [a2, g2, wrap_i64, h3]
        exact hK
    · simp only [if_pos h2] at hK
      simp [vf94, hs.len]
      refine wLoop_round ?_
      simp [a0, g0, wrap_i64]
      refine wLoop_round ?_
      simp [a1, g1, wrap_i64, h2]
      exact hK
  · rw [if_pos h] at hK
    simp [vf94, hs.len]
    refine wLoop_round ?_
    simp [a0, g0, wrap_i64, h]
    exact hK
theorem dye_compareShades {p q : Prt} (hK : ∀ H', HX H H' → K (.int .i64 (ptCf p q)) H') : VCall tbl lim 72 [.agg [.int .i64 p.l, .int .i64 p.t, .int .i64 p.b], .agg [.int .i64 q.l, .int .i64 q.t, .int .i64 q.b]] H K := by
  refine VCall_fn tbl_at72 rfl ?_
  simp [vf72]
  refine cmp_CompareZ ?_
  simp
  refine cmp_CompareZ ?_
  simp
  refine cmp_CompareZ ?_
  simp [vbslice_some]
  have hs : SlV (H ++ [.row [.int .i64 (cmpZ p.l q.l), .int .i64 (cmpZ p.t q.t), .int .i64 (cmpZ p.b q.b)] true]) (.sl H.length 0 3 1) [cmpZ p.l q.l, cmpZ p.t q.t, cmpZ p.b q.b] := SlV.lit (l := [_, _, _]) (by rw [List.getElem?_concat_length]; rfl) rfl
  refine cmp_Or3 hs ?_
  have hK := hK _ (HX.push (x := .row [.int .i64 (cmpZ p.l q.l), .int .i64 (cmpZ p.t q.t), .int .i64 (cmpZ p.b q.b)] true))
  unfold ptCf at hK
  simp [splice]
  simpa using hK
theorem part_cmp {b : Nat} {l : List Prt} : CmpQ b 71 [] [] H l ptCf := by
  intro H' lim x y K hx hy hlen hsame hK
  show VCall tbl lim 71 [eV x, eV y] H' K
  refine VCall_fn tbl_at71 rfl ?_
  simp [vf71, eV, Prt.cells, rd43]
  refine dye_compareShades fun H2 x2 => ?_
  simp
  exact hK _ x2
theorem sort_pt {n : Nat} {u : V} {l : List Prt} (hu : OwnT n prC H u l) (hlim : lim ≤ n) (hn : n ≤ H.length) (hl : l.length < 256)
    (hK : ∀ l' H', l'.Perm l → SortR ptCf 0 l'.length l' → OwnT n prC H' u l' → H.length ≤ H'.length → (∀ b', b' < n → H'[b']? = H[b']?) → K (.tup []) H') : VCall tbl lim 70 [u, .func (.func 71) [] []] H K := by
  have hst : allStor ([] : List V) = true ∧ allStor ([] : List V) = true := ⟨rfl, rfl⟩
  cases hu with
  | nil => exact sq_sort0 (by omega) hst (hK [] H (.refl _) (fun p q _ _ h => absurd h (by simp)) .nil (Nat.le_refl _) (fun _ _ => rfl))
  | row h1 h3 =>
    rename_i b
    refine sq_sort h3 (by omega) hst part_cmp ptCf_ordr hl fun H' l' hs hso => ?_
    have hn2 := hs.n
    refine hK l' H' hs.perm (by rw [hn2]; exact hso) ?_ hs.len fun b' hb' => hs.oth b' (by omega) (by omega)
    rw [← hn2]
    exact .row h1 hs.row
theorem stor_mkslc {b o l z c : Nat} : stor (mkslc b o l z c) = true := by unfold mkslc; split <;> rfl
theorem prt_Grow {n : Nat} (hn : 0 < n ∧ n ≤ 1000) (hK : ∀ cs, cs.length = n * 4 → K (mkslc H.length 0 0 4 n) (H ++ [.row cs true])) : VCall tbl lim 91 [.snil, .int .i64 n] H K := by
  refine VCall_fn tbl_at91 rfl ?_
  have h0 : ¬ (n : Int) < 0 := by omega
  have h1 : (0 : Int) < n := by omega
  have w1 : IntKind.i64.wrap (n : Int) = n := wrap_i64 (by omega) (by omega)
  have s0 : vslC 4 .snil none (some (.int .i64 0)) = some .snil := by simp [vslC, vbounds, vint]
  have a0 : vappz 4 32 [.int .i64 0, .int .i64 0, .int .i64 0, .int .i64 0] H .snil (.int .i64 n) = some (.sl H.length 0 n 4, H ++ [.row (rowOf n [.int .i64 0, .int .i64 0, .int .i64 0, .int .i64 0]) true]) := by
    have q1 : ¬ (n : Int) = 0 := by omega
    have q2 : (0 : Int) ≤ n := by omega
    have q3 : (n : Int) < 4611686018427387904 := by omega
    have q4 : n * 32 ≤ 140737488355328 := by omega
    simp [vappz, q1, q2, q3, q4]
    omega
  have s1 : vslC 4 (.sl H.length 0 n 4) none (some (.int .i64 0)) = some (mkslc H.length 0 0 4 n) := by
    have : vbounds n none (some (.int .i64 0)) = some (0, 0) := vbounds_hi (k := .i64) (n := 0) (by omega)
    simp [vslC, this]
  have hl : (rowOf n [V.int .i64 0, .int .i64 0, .int .i64 0, .int .i64 0]).length = n * 4 := by
    show (List.replicate n _).flatten.length = n * 4
    simp
  have := hK _ hl
  simp (disch := omega) [vf91, h0, h1, wrap_i64, s0, a0, s1, iz4]
  refine cond_dec (fun _ => ?_) fun h => by omega
  simp (disch := omega) [h0, h1, wrap_i64, s0, a0, s1, iz4, stor_mkslc]
  exact this
/-- the first of some lists, joined -/
def joinN (Ls : List (List Prt)) (i : Nat) : List Prt := (Ls.take i).flatten
theorem joinN_succ {Ls : List (List Prt)} {i : Nat} (hi : i < Ls.length) : joinN Ls (i + 1) = joinN Ls i ++ Ls.getD i [] := by
  unfold joinN
  rw [List.take_add_one, List.getElem?_eq_getElem hi, List.getD_eq_getElem?_getD, List.getElem?_eq_getElem hi, List.flatten_append]
  simp only [Option.toList_some, List.flatten_cons, List.flatten_nil, List.append_nil, Option.getD_some]
theorem joinN_all {Ls : List (List Prt)} : joinN Ls Ls.length = Ls.flatten := by unfold joinN; rw [List.take_length]
theorem joinN_le {Ls : List (List Prt)} : ∀ {i : Nat}, i ≤ Ls.length → ∀ {j : Nat}, j ≤ i → (joinN Ls j).length ≤ (joinN Ls i).length
  | 0, _, j, hj => by have : j = 0 := by omega
                      subst this; exact Nat.le_refl _
  | i + 1, hi, j, hj => by
    by_cases e : j = i + 1
    · subst e; exact Nat.le_refl _
    · have := joinN_le (Ls := Ls) (i := i) (by omega) (j := j) (by omega)
      rw [joinN_succ (by omega), List.length_append]; omega
/-- append where there is room -/
theorem apc_room {b k n : Nat} {cs : List V} (hb : b = H.length) (hm : LstV prC (H ++ [.row cs true]) v m) (h0 : 0 < m.length) (hk : k + m.length ≤ n) (hc : cs.length = n * 4) (hlim : lim ≤ H.length) :
    vappC false lim 4 32 (H ++ [.row cs true]) (mkslc b 0 k 4 n) v = some (mkslc b 0 (k + m.length) 4 n, H ++ [.row (splice cs (k * 4) (prC.all m)) true]) := by
  subst hb
  have hne : ¬ k = n := by omega
  have hg : (H ++ [Blk.row cs true])[H.length]? = some (.row cs true) := by simp
  have hal : (prC.all m).length = m.length * 4 := Cod.all_len
  have hle : 0 + k * 4 + (prC.all m).length ≤ cs.length := by rw [hal, hc]; omega
  have hst : vstoreH lim (H ++ [.row cs true]) H.length (0 + k * 4) (prC.all m) = some (H ++ [.row (splice cs (k * 4) (prC.all m)) true]) := by
    simp only [vstoreH, hlim, if_true, hg, hle]
    simp
  have hk0 : ¬ (m.length : Int) = 0 := by omega
  have e1 : mkslc H.length 0 k 4 n = .slc H.length 0 k 4 n := if_neg hne
  rw [e1]
  simp only [vappC, hm.cells, hm.len, true_and, Int.toNat_natCast, hk, if_true, hk0, if_false, hst, Bool.false_eq_true]
theorem prt_Concat {b : V} {vs : List V} {Ls : List (List Prt)} (hb : LstV vC H b vs) (hlen : vs.length = Ls.length) (hL : ∀ i, i < Ls.length → LstV prC H (vs.getD i default) (Ls.getD i []) ∧ 0 < (Ls.getD i []).length) (h0 : 0 < Ls.length ∧ Ls.length ≤ 10) (hl : Ls.flatten.length ≤ 1000) (hlim : lim ≤ H.length)
    (hK : ∀ H' v', HX H H' → OwnT H.length prC H' v' Ls.flatten → K v' H') : VCall tbl lim 69 [b] H K := by
  refine VCall_fn tbl_at69 rfl ?_
  have hjl : ∀ j, j ≤ Ls.length → (joinN Ls j).length ≤ Ls.flatten.length := fun j hj => by rw [← joinN_all]; exact joinN_le (Nat.le_refl _) hj
  simp [vf69, hb.len]
  refine wLoop_up Ls.length (fun i fr L H' => (fr 0 = b ∧ fr 9 = b ∧ fr 10 = .int .i64 Ls.length ∧ fr 11 = .int .i64 i ∧ fr 3 = .int .i64 (joinN Ls i).length) ∧ H' = H) ⟨by simp [hb.len, hlen, joinN], rfl⟩ ?_
  rintro i hi fr L H' ⟨⟨f0, f9, f10, f11, f3⟩, e0⟩
  have e0 := e0.symm
  subst e0
  simp [f0, f9, f10, f11, f3]
  refine cond_dec (fun ht => ?_) fun hfl => ?_
  · have ht : i < Ls.length := by omega
    obtain ⟨hv, hp⟩ := hL i ht
    have hj1 := hjl (i + 1) (by omega)
    have hjs := joinN_succ (Ls := Ls) ht
    have hjn : (joinN Ls (i + 1)).length = (joinN Ls i).length + (Ls.getD i []).length := by rw [hjs, List.length_append]
    have gl : vload none L H (ept 1 b i) = some (vs.getD i default) := hb.load1 (by omega)
    have ad := hb.at (i := i) (by omega)
    have hlt : ¬ ((joinN Ls i).length : Int) + (Ls.getD i []).length < 0 := by omega
    simp (disch := omega) [f0, f9, f10, f11, f3, ad, gl, lpId_ept, hv.len, wrap_i64]
    refine cond_dec (fun h => by omega) fun _ => ?_
    simp (disch := omega) [f0, f9, f10, f11, f3, wrap_i64, hjn]
    omega
  have hin : i = Ls.length := by omega
  subst hin
  have hpos : 0 < Ls.flatten.length := by
    obtain ⟨_, hp⟩ := hL 0 h0.1
    have hj := hjl 1 (by omega)
    have := joinN_succ (Ls := Ls) (i := 0) h0.1
    rw [this, List.length_append] at hj
    omega
  clear hi hfl f9 f10 f11
  rw [joinN_all] at f3
  generalize hn : Ls.flatten.length = n at *
  simp [f0, f3]
  refine prt_Grow ⟨hpos, hl⟩ fun cs hcs => ?_
  have hb1 : LstV vC (H ++ [.row cs true]) b vs := hb.mono HX.push
  simp [f0, f3, hb.len]
  refine wLoop_up Ls.length (fun i fr L H' => ∃ cs, (fr 25 = b ∧ fr 26 = .int .i64 Ls.length ∧ fr 27 = .int .i64 i ∧ fr 6 = mkslc H.length 0 (joinN Ls i).length 4 n) ∧ H' = H ++ [.row cs true] ∧ cs.length = n * 4 ∧ cs.take ((joinN Ls i).length * 4) = prC.all (joinN Ls i)) ⟨cs, by simp [f0, hb.len, hlen, joinN], rfl, hcs, by simp [joinN, Cod.all]⟩ ?_
  clear f0 f3
  rintro i hi fr L H' ⟨cs, ⟨f25, f26, f27, f6⟩, e0, hc, htk⟩
  subst e0
  simp [f25, f26, f27, f6]
  refine cond_dec (fun ht => ?_) fun hfl => ?_
  · have ht : i < Ls.length := by omega
    obtain ⟨hv, hp⟩ := hL i ht
    have hj1 := hjl (i + 1) (by omega)
    have hjs := joinN_succ (Ls := Ls) ht
    have hjn : (joinN Ls (i + 1)).length = (joinN Ls i).length + (Ls.getD i []).length := by rw [hjs, List.length_append]
    have hb2 : LstV vC (H ++ [.row cs true]) b vs := hb.mono HX.push
    have hv2 : LstV prC (H ++ [.row cs true]) (vs.getD i default) (Ls.getD i []) := hv.mono HX.push
    have gl : vload none L (H ++ [.row cs true]) (ept 1 b i) = some (vs.getD i default) := hb2.load1 (by omega)
    have ad := hb2.at (i := i) (by omega)
    have hap := apc_room (lim := lim) (b := H.length) (k := (joinN Ls i).length) (n := n) rfl hv2 hp (by omega) hc hlim
    simp (disch := omega) [f25, f26, f27, f6, ad, gl, lpId_ept, hap, wrap_i64, hjn]
    have hal : (prC.all (Ls.getD i [])).length = (Ls.getD i []).length * 4 := Cod.all_len
    refine ⟨by omega, ?_, ?_⟩
    · simp only [splice, List.length_append, List.length_take, List.length_drop, hal]
      omega
    · rw [hjs, Cod.all_append, ← htk]
      simp only [splice]
      have hl1 : (cs.take ((joinN Ls i).length * 4)).length = (joinN Ls i).length * 4 := by rw [List.length_take]; omega
      rw [List.take_append_of_le_length (by rw [List.length_append, hl1, hal]; omega), List.take_of_length_le (by rw [List.length_append, hl1, hal]; omega)]
  · have hin : i = Ls.length := by omega
    subst hin
    rw [joinN_all, hn] at f6 htk
    have e1 : mkslc H.length 0 n 4 n = .sl H.length 0 n 4 := if_pos rfl
    rw [e1] at f6
    have hcs2 : cs = prC.all Ls.flatten := by rw [← htk, List.take_of_length_le (by omega)]
    have := hK (H ++ [.row cs true]) (.sl H.length 0 n 4) HX.push (by rw [hcs2, ← hn]; exact OwnT.new (Nat.le_refl _))
    simp [f6]
    exact this
end
/-- the front of a row of one's own -/
inductive PreT (n : Nat) (H : Hp) : V → List Prt → Prop
  | nil : PreT n H .snil []
  | row {b : Nat} {cs : List V} {l : List Prt} : n ≤ b → H[b]? = some (.row cs true) → l.length * 4 ≤ cs.length → cs.take (l.length * 4) = prC.all l → PreT n H (.sl b 0 l.length 4) l
theorem PreT.of {n : Nat} {H : Hp} {v : V} {l : List Prt} (h : OwnT n prC H v l) : PreT n H v l := by
  cases h with
  | nil => exact .nil
  | row h1 h2 => exact .row h1 h2 (by rw [Cod.all_len]; omega) (List.take_of_length_le (by rw [Cod.all_len]; omega))
theorem PreT.lst {n : Nat} {H : Hp} {v : V} {l : List Prt} (h : PreT n H v l) : LstV prC H v l := by
  cases h with
  | nil => exact .nil
  | row h1 h2 h3 h4 => exact .sl h2 (by omega) (by rw [List.drop_zero]; exact h4)
theorem PreT.mono {n : Nat} {H H' : Hp} {v : V} {l : List Prt} (hx : HX H H') (h : PreT n H v l) : PreT n H' v l := by
  cases h with
  | nil => exact .nil
  | row h1 h2 h3 h4 => exact .row h1 (hx.get h2) h3 h4
theorem PreT.le {n m : Nat} {H : Hp} {v : V} {l : List Prt} (hnm : n ≤ m) (h : PreT m H v l) : PreT n H v l := by
  cases h with
  | nil => exact .nil
  | row h1 h2 h3 h4 => exact .row (by omega) h2 h3 h4
theorem mg1_mem {M : List Prt} {p x : Prt} (h : x ∈ mg1 M p) : x ∈ M ∨ x = p ∨ ∃ y, y ∈ M ∧ x = addW y p.w := by
  unfold mg1 at h
  split at h
  · rename_i hc
    rcases List.mem_or_eq_of_mem_set h with h | h
    · exact Or.inl h
    · refine Or.inr (Or.inr ⟨_, ?_, h⟩)
      rw [List.getD_eq_getElem?_getD, List.getElem?_eq_getElem (by omega)]
      exact List.getElem_mem _
  · rcases List.mem_append.1 h with h | h
    · exact Or.inl h
    · exact Or.inr (Or.inl (List.mem_singleton.1 h))
theorem mgN_bd {S : List Prt} {B : Int} (hB : 0 ≤ B) (h : ∀ i, i < S.length → -B ≤ (S.getD i default).w ∧ (S.getD i default).w ≤ B) : ∀ {k : Nat}, k ≤ S.length → ∀ x, x ∈ mgN S k → -(B * k) ≤ x.w ∧ x.w ≤ B * k
  | 0, _, x, hx => by simp [mgN] at hx
  | k + 1, hk, x, hx => by
    have ih := mgN_bd hB h (k := k) (by omega)
    have hs := h k (by omega)
    rw [show ((k + 1 : Nat) : Int) = (k : Int) + 1 from rfl, Int.mul_add, Int.mul_one]
    have hp : 0 ≤ B * (k : Int) := Int.mul_nonneg hB (by omega)
    simp only [mgN] at hx
    rcases mg1_mem hx with h1 | h1 | ⟨y, h1, h2⟩
    · have := ih x h1; omega
    · rw [h1]; omega
    · have := ih y h1
      rw [h2]; simp only [addW]; omega
section
variable {lim : Nat} {H : Hp} {K : V → Hp → Prop} {v w : V} {l m : List Prt} {x y u1 u2 u3 : Int}
theorem part_zero {p : Prt} (hK : K (.bool (decide (p.w = 0))) H) : VCall tbl lim 74 [.agg [.int .i64 p.l, .int .i64 p.t, .int .i64 p.b, .int .i64 p.w]] H K := by
  refine VCall_fn tbl_at74 rfl ?_
  simp [vf74, rd4_3]
  exact hK
theorem prt_Index (hv : LstV prC H v l) (hl : l.length ≤ 1000) (h1 : ∀ i, i < l.length → (l.getD i default).w = 0 → (∀ j, j < i → (l.getD j default).w ≠ 0) → K (.int .i64 i) H) (h2 : (∀ j, j < l.length → (l.getD j default).w ≠ 0) → K (.int .i64 (-1)) H) :
    VCall tbl lim 96 [v, .func (.func 74) [] []] H K := by
  refine VCall_fn tbl_at96 rfl ?_
  simp [vf96, hv.len]
  refine wLoop_up l.length (fun i fr L H' => (fr 0 = v ∧ fr 1 = .func (.func 74) [] [] ∧ fr 7 = .int .i64 l.length ∧ fr 8 = .int .i64 i) ∧ H' = H ∧ ∀ j, j < i → (l.getD j default).w ≠ 0) ⟨by simp [hv.len], rfl, fun j hj => by omega⟩ ?_
  rintro i hi fr L H' ⟨⟨f0, f1, f7, f8⟩, e0, hz⟩
  have e0 := e0.symm
  subst e0
  simp [f0, f1, f7, f8]
  refine cond_dec (fun ht => ?_) fun hfl => ?_
  · have ht : i < l.length := by omega
    simp (disch := omega) [f0, f1, f7, f8, hv.at ht, prt_load hv, lpId_ept]
    refine part_zero ?_
    by_cases hw : (l.getD i default).w = 0
    · have := h1 i ht hw hz
      simp [hw]
      exact this
    · simp (disch := omega) [eq_false hw, f0, f1, f7, f8, wrap_i64]
      refine ⟨by omega, fun j hj => ?_⟩
      by_cases e : j = i
      · subst e; exact hw
      · exact hz j (by omega)
  · have : i = l.length := by omega
    subst this
    have := h2 hz
    simp
    exact this
theorem filter_all (h : ∀ j, j < l.length → (l.getD j default).w ≠ 0) : l.filter nzP = l := by
  refine List.filter_eq_self.2 fun p hp => ?_
  obtain ⟨i, hi, e⟩ := List.mem_iff_getElem.1 hp
  have := h i hi
  rw [List.getD_eq_getElem?_getD, List.getElem?_eq_getElem hi] at this
  simp only [Option.getD_some, e] at this
  simp [nzP, this]
theorem getD_takeX {n k : Nat} (h : k < n) : (l.take n).getD k default = l.getD k default := by
  simp only [List.getD_eq_getElem?_getD, List.getElem?_take, if_pos h]
theorem take_snocP {j : Nat} (hj : j < l.length) : l.take (j + 1) = l.take j ++ [l.getD j default] := by
  rw [List.take_add_one, List.getElem?_eq_getElem hj, List.getD_eq_getElem?_getD, List.getElem?_eq_getElem hj]; rfl
theorem set_same {α : Type} : ∀ {H : List α} {b : Nat} {x : α}, H[b]? = some x → H.set b x = H
  | [], _, _, h => by simp at h
  | y :: H, 0, x, h => by simp at h; simp [h]
  | y :: H, b + 1, x, h => by simp at h; simp [set_same h]
def zero4 : List V := [.int .i64 0, .int .i64 0, .int .i64 0, .int .i64 0]
theorem own_store {n m : Nat} {u : V} {M : List Prt} (hu : OwnT n prC H u l) (hM : M.length = l.length) (hlim : lim ≤ n) (hm : m < l.length) (q : Prt) (L : Lo) : vstore lim L (setH H u (prC.all M)) (ept 4 u m) (.agg [.int .i64 q.l, .int .i64 q.t, .int .i64 q.b, .int .i64 q.w]) 4 = some (L, setH H u (prC.all (M.set m q))) := by
  have := (hu.put hM).store (lim := lim) (i := m) (j := 0) (x := .agg q.cells) (y := q) (L := L) (sz := 4) hlim (by omega) rfl rfl (by omega) (by
    show q.cells = splice (M.getD m default).cells 0 q.cells
    simp [Prt.cells, splice])
  cases hu with
  | nil => simp at hm
  | row h1 h2 =>
    simp only [setH, List.set_set] at this ⊢
    exact this
theorem zero4_len {k : Nat} : (rowOf k zero4).length = k * 4 := by
  show (List.replicate k zero4).flatten.length = k * 4
  simp [zero4]
theorem own_clr {n m : Nat} {u : V} {M : List Prt} (hu : OwnT n prC H u l) (hM : M.length = l.length) (hlim : lim ≤ n) (hm : m < l.length) : vclr lim 4 zero4 (setH H u (prC.all M)) (subV u m l.length) = some (setH H u (splice (prC.all M) (m * 4) (rowOf (l.length - m) zero4))) := by
  cases hu with
  | nil => simp at hm
  | row h1 h2 =>
    rename_i b
    have hb := (List.getElem?_eq_some_iff.1 h2).1
    have hal : (prC.all M).length = l.length * 4 := by rw [Cod.all_len, hM]
    have key : ∀ o k, o + k * 4 ≤ l.length * 4 → vstoreH lim (H.set b (.row (prC.all M) true)) b o (rowOf k zero4) = some (H.set b (.row (splice (prC.all M) o (rowOf k zero4)) true)) := fun o k h => by
      have hg : (H.set b (.row (prC.all M) true))[b]? = some (.row (prC.all M) true) := List.getElem?_set_self hb
      have hle : o + (rowOf k zero4).length ≤ (prC.all M).length := by rw [zero4_len, hal]; exact h
      simp only [vstoreH, show lim ≤ b by omega, if_true, hg, hle, List.set_set]
    have hz : zero4.length = 4 := rfl
    by_cases h0 : m = 0
    · subst h0
      have hl0 : ¬ l.length = 0 := by omega
      have := key 0 l.length (by omega)
      simp only [subV, if_true, vclr, true_and, hz, hl0, if_false, setH, this, Nat.zero_mul, Nat.sub_zero]
    · have hml : ¬ m = l.length := by omega
      have hl0 : ¬ l.length - m = 0 := by omega
      have := key (m * 4) (l.length - m) (by omega)
      simp only [subV, h0, if_false, hml, vclr, true_and, hz, if_true, hl0, setH, this, Nat.zero_add]
theorem own_pre {n m : Nat} {u : V} {M F : List Prt} {Z : List V} (hu : OwnT n prC H u l) (hM : M.length = l.length) (hm : m < l.length) (hF : M.take m = F) : PreT n (setH H u (splice (prC.all M) (m * 4) Z)) (subV u 0 m) F := by
  cases hu with
  | nil => simp at hm
  | row h1 h2 =>
    rename_i b
    have hb := (List.getElem?_eq_some_iff.1 h2).1
    have hal : (prC.all M).length = l.length * 4 := by rw [Cod.all_len, hM]
    have hFl : F.length = m := by rw [← hF, List.length_take]; omega
    have e : subV (.sl b 0 l.length 4) 0 m = .sl b 0 F.length 4 := by rw [hFl]; simp [subV]
    rw [e]
    have htk : (prC.all M).take (m * 4) = prC.all F := by rw [Cod.all_take, hF]
    have hfl : (prC.all F).length = m * 4 := by rw [Cod.all_len, hFl]
    refine .row h1 (List.getElem?_set_self hb) ?_ ?_
    · rw [hFl]; simp only [splice, htk, List.length_append, hfl]; omega
    · rw [hFl]; simp only [splice, htk]
      rw [List.append_assoc, List.take_append_of_le_length (by omega), List.take_of_length_le (by omega)]
theorem prt_Delete {n : Nat} {u : V} (hu : OwnT n prC H u l) (hlim : lim ≤ n) (hn : n ≤ H.length) (hl : l.length ≤ 1000) (hK : ∀ H' v', H.length ≤ H'.length → (∀ b', b' < n → H'[b']? = H[b']?) → PreT n H' v' (l.filter nzP) → K v' H') :
    VCall tbl lim 73 [u, .func (.func 74) [] []] H K := by
  refine VCall_fn tbl_at73 rfl ?_
  have hst := hu.lst.stor
  simp [vf73, hst]
  refine prt_Index hu.lst hl (fun i hi hw hb => ?_) fun hall => ?_
  case refine_2 =>
    have := hK H u (Nat.le_refl _) (fun _ _ => rfl) (by rw [filter_all hall]; exact PreT.of hu)
    simp [hst]
    exact this
  have hi1 : ¬ (i : Int) = -1 := by omega
  have hf0 : (l.take i).filter nzP = l.take i := by
    have : (l.take i).length = i := by rw [List.length_take]; omega
    refine filter_all fun j hj => ?_
    rw [getD_takeX (by omega)]
    exact hb j (by omega)
  have hf1 : (l.take (i + 1)).filter nzP = l.take i := by
    rw [take_snocP hi, List.filter_append, hf0]
    have : nzP (l.getD i default) = false := by simp [nzP, hw]
    simp [this]
  simp (disch := omega) [hi1, wrap_i64]
  refine wLoop_up (l.length - (i + 1)) (fun c fr L H' => ∃ m M, (fr 0 = u ∧ fr 1 = .func (.func 74) [] [] ∧ fr 5 = .int .i64 (m : Nat) ∧ fr 6 = .int .i64 ((i + 1 + c : Nat) : Int)) ∧ H' = setH H u (prC.all M) ∧ M.length = l.length ∧ m < i + 1 + c ∧ M.take m = (l.take (i + 1 + c)).filter nzP ∧ M.drop (i + 1 + c) = l.drop (i + 1 + c)) ⟨i, l, by simp, ?_, rfl, by omega, by rw [Nat.add_zero, hf1], rfl⟩ ?_
  · cases hu with
    | nil => rfl
    | row h1 h2 =>
      simp only [setH]
      exact (set_same h2).symm
  rintro c hc fr L H' ⟨m, M, ⟨f0, f1, f5, f6⟩, e0, hM, hmj, hMt, hMd⟩
  subst e0
  have hu2 := hu.put (l' := M) hM
  have hsl := hu.setLen (cs := prC.all M)
  simp [f0, f1, f5, f6, hu2.lst.len, hM]
  by_cases ht : i + 1 + c < l.length
  · have hMd' : M.drop (i + 1 + (c + 1)) = l.drop (i + 1 + (c + 1)) := by
      have := congrArg (List.drop 1) hMd
      rw [List.drop_drop, List.drop_drop] at this
      exact this
    have htr : ((i : Int) + 1 + (c : Int) < (l.length : Int)) = True := eq_true (by omega)
    have ad := hu2.lst.at (i := i + 1 + c) (by omega)
    have ld := fun L => prt_load hu2.lst (i := i + 1 + c) (by omega) (L := L)
    have hMj : M.getD (i + 1 + c) default = l.getD (i + 1 + c) default := by
      have := congrArg (fun z => z[0]?) hMd
      simp only [List.getElem?_drop, Nat.add_zero] at this
      simp only [List.getD_eq_getElem?_getD, this]
    rw [hMj] at ld
    simp only [Int.natCast_add, Int.natCast_one] at ad
    simp (disch := omega) [f0, f1, f5, f6, htr, ad, ld, lpId_ept, lastO, lastS, splice44, iz4]
    refine part_zero ?_
    by_cases hw2 : (l.getD (i + 1 + c) default).w = 0
    · simp (disch := omega) [hw2, f0, f1, f5, f6, wrap_i64]
      refine ⟨by omega, m, ⟨rfl, by omega⟩, M, rfl, hM, by omega, ?_, ?_⟩
      · rw [show i + 1 + (c + 1) = i + 1 + c + 1 by omega, take_snocP ht, List.filter_append, hMt]
        have : nzP (l.getD (i + 1 + c) default) = false := by simp [nzP, hw2]
        simp [this]
      · exact hMd'
    · have am := hu2.lst.at (i := m) (by omega)
      have sm := own_store (lim := lim) hu hM hlim (m := m) (by omega) (l.getD (i + 1 + c) default)
      simp (disch := omega) [eq_false hw2, f0, f1, f5, f6, wrap_i64, lastO, lastS, rd4_w, am, sm, -vstore]
      refine ⟨by omega, m + 1, ⟨rfl, by omega⟩, M.set m (l.getD (i + 1 + c) default), rfl, by simpa using hM, by omega, ?_, ?_⟩
      · rw [show i + 1 + (c + 1) = i + 1 + c + 1 by omega, take_snocP ht, List.filter_append, ← hMt]
        have h1 : nzP (l.getD (i + 1 + c) default) = true := by simp [nzP, hw2]
        have h2 : [l.getD (i + 1 + c) default].filter nzP = [l.getD (i + 1 + c) default] := by simp [h1]
        rw [h2, List.take_add_one, List.getElem?_set_self (by omega), List.take_set_of_le (Nat.le_refl _)]; rfl
      · rw [List.drop_set_of_lt (by omega)]; exact hMd'
  · have htr : ((i : Int) + 1 + (c : Int) < (l.length : Int)) = False := eq_false (by omega)
    have hce : i + 1 + c = l.length := by omega
    rw [hce, List.take_length] at hMt
    have hml : m < l.length := by omega
    have s1 := hu2.lst.subW (a := m) (b := M.length) ⟨by omega, by omega⟩ (by omega) (vbounds_lo (k := .i64) (n := m) (by omega))
    rw [hM] at s1
    have s2 := hu2.lst.subW (a := 0) (b := m) ⟨by omega, by omega⟩ (by omega) (vbounds_hi (k := .i64) (n := m) (by omega))
    have cl := own_clr (lim := lim) hu hM hlim hml
    unfold zero4 at cl
    have hs3 : stor (subV u 0 m) = true := (own_pre (Z := []) hu hM hml hMt).lst.stor
    have hpre := own_pre (Z := rowOf (l.length - m) [.int .i64 0, .int .i64 0, .int .i64 0, .int .i64 0]) hu hM hml hMt
    have := hK _ _ (by rw [hu.setLen]; omega) (fun b' hb' => hu.setOld hb') hpre
    simp (disch := omega) [htr, f0, f1, f5, f6, s1, s2, cl, hs3, iz4]
    exact this
end
section
variable {lim : Nat} {H : Hp} {K : V → Hp → Prop} {v w : V} {l m : List Prt} {x y u1 u2 u3 : Int}
theorem prt_put {n i : Nat} {u : V} {x : Int} (ho : OwnT n prC H u l) (hi : i < l.length) (hlim : lim ≤ n) (hx : addW (l.getD i default) y = addW (l.getD i default) y) (L : Lo) : vstore lim L H (eptf 4 u i 3) (.int .i64 ((l.getD i default).w + y)) 1 = some (L, setH H u (prC.all (l.set i (addW (l.getD i default) y)))) :=
  ho.store (lim := lim) (i := i) (j := 3) (x := .int .i64 ((l.getD i default).w + y)) (y := addW (l.getD i default) y) (L := L) (sz := 1) hlim hi rfl rfl (by omega) (by simp [prC, Prt.cells, splice, cellsV, addW])
theorem dye_collect {b : V} {vs : List V} {Ls : List (List Prt)} (hb : LstV vC H b vs) (hlen : vs.length = Ls.length) (hL : ∀ i, i < Ls.length → LstV prC H (vs.getD i default) (Ls.getD i []) ∧ 0 < (Ls.getD i []).length) (h0 : 0 < Ls.length ∧ Ls.length ≤ 10) (hl : Ls.flatten.length ≤ 200) (hlim : lim ≤ H.length)
    {B : Int} (hB : 0 ≤ B ∧ B ≤ 1000000000000) (hA : ∀ p, p ∈ Ls.flatten → okS p ∧ -B ≤ p.w ∧ p.w ≤ B) (hK : ∀ H' v', HX H H' → PreT H.length H' v' (colP Ls.flatten) → K v' H') : VCall tbl lim 43 [b] H K := by
  refine VCall_fn tbl_at43 rfl ?_
  have hst := hb.stor
  simp [vf43, hst]
  refine prt_Concat hb hlen hL h0 (by omega) hlim fun H1 u x1 hu => ?_
  replace x1 : HX H H1 := x1
  have l1 := x1.len
  generalize Ls.flatten = A at *
  simp [hu.lst.stor]
  refine sort_pt hu hlim l1 (by omega) fun S H2 hp hs hS l2 hoth => ?_
  have hx2 : HX H H2 := HX.of (by omega) fun b hb => by rw [hoth b hb]; exact x1.same hb
  have hSl : S.length = A.length := hp.length_eq
  have hSA : ∀ i, i < S.length → okS (S.getD i default) ∧ -B ≤ (S.getD i default).w ∧ (S.getD i default).w ≤ B := fun i hi => by
    have : S.getD i default = S[i] := by rw [List.getD_eq_getElem?_getD, List.getElem?_eq_getElem hi]; rfl
    rw [this]
    exact hA _ (hp.mem_iff.1 (List.getElem_mem hi))
  have hcol := collect_eq (A := A) (S := S) (fun p hp => (hA p hp).1) hp fun i j hij hj => ptCf_num (hSA i (by omega)).1 (hSA j hj).1 (hs i j (by omega) hij hj)
  simp [hS.lst.len]
  refine wLoop_up S.length (fun k fr L H' => ∃ q, (fr 12 = u ∧ fr 13 = .int .i64 S.length ∧ fr 14 = .int .i64 k ∧ fr 4 = q) ∧ HX H2 H' ∧ OwnT H2.length prC H' q (mgN S k)) ⟨.snil, by simp [hS.lst.len], HX.refl, .nil⟩ ?_
  rintro k hk fr L H3 ⟨q, ⟨f12, f13, f14, f4⟩, x3, hq⟩
  have l3 := x3.len
  have hS3 := hS.lst.mono x3
  have ml := mgN_len (S := S) (k := k)
  simp [f12, f13, f14, f4]
  refine cond_dec (fun ht => ?_) fun hfl => ?_
  · have ht : k < S.length := by omega
    have hbd := mgN_bd hB.1 (fun i hi => (hSA i hi).2) (k := k) (by omega)
    have hpw := (hSA k ht).2
    have hmg : mgN S (k + 1) = mg1 (mgN S k) (S.getD k default) := rfl
    have ld := fun L => prt_load hS3 ht (L := L)
    rw [hmg]
    generalize S.getD k default = p at *
    generalize mgN S k = M at *
    have hap : ∃ v' H', vappend lim 4 32 (H3 ++ [.row [.int .i64 p.l, .int .i64 p.t, .int .i64 p.b, .int .i64 p.w] true]) q (.sl H3.length 0 1 4) = some (v', H') ∧ OwnT H2.length prC H' v' (M ++ [p]) ∧ HX H2 H' := by
      obtain ⟨v', H', a1, a2, a3, a4, a5, a6⟩ := hq.append (lim := lim) (bytes := 32) (x := p) (cs := [.int .i64 p.l, .int .i64 p.t, .int .i64 p.b, .int .i64 p.w]) rfl ⟨by omega, by omega⟩ (by omega) (by omega)
      exact ⟨v', H', a1, a2, a3 _ x3 (Nat.le_refl _)⟩
    by_cases hM0 : M.length = 0
    · have hmg1 : mg1 M p = M ++ [p] := by unfold mg1; rw [if_neg (by omega)]
      rw [hmg1]
      obtain ⟨v', H', a1, a2, a3⟩ := hap
      have hg0 : ¬ (0 : Int) < (M.length : Int) := by omega
      simp (disch := omega) [f12, f13, f14, f4, hS3.at ht, ld, lpId_ept, lastO, lastS, splice44, iz4, hq.lst.len, hM0, hg0, vbslice_some, splice, rd4_w, a1, wrap_i64]
      exact ⟨by omega, a3, a2⟩
    · have hg0 : (0 : Int) < (M.length : Int) := by omega
      have hgn : 0 < M.length := by omega
      have ls : ∀ a b c d : Int, vstore lim (L ++ [[.int .i64 0, .int .i64 0, .int .i64 0, .int .i64 0]]) H3 (.lp L.length 0) (.agg [.int .i64 a, .int .i64 b, .int .i64 c, .int .i64 d]) 4 = some (L ++ [[.int .i64 a, .int .i64 b, .int .i64 c, .int .i64 d]], H3) := fun a b c d => by
        simp [lastO, lastS, splice44]
      have am : viaddrS 4 q (.int .i64 ((M.length : Int) - 1)) = some (ept 4 q (M.length - 1)) := by
        have := hq.lst.at (i := M.length - 1) (by omega)
        rw [show ((M.length - 1 : Nat) : Int) = (M.length : Int) - 1 by omega] at this
        exact this
      have fa0 : vfaddr 0 (ept 4 q (M.length - 1)) = some (eptf 4 q (M.length - 1) 0) := hq.lst.faddr (by omega)
      have fa3 : vfaddr 3 (ept 4 q (M.length - 1)) = some (eptf 4 q (M.length - 1) 3) := hq.lst.faddr (by omega)
      have sh := fun L => prt_sh hq.lst (i := M.length - 1) (by omega) (L := L)
      have gw := fun L => prt_get hq.lst (i := M.length - 1) (j := 3) (by omega) (by omega) (L := L)
      have hlast := hbd (M.getD (M.length - 1) default) (by rw [List.getD_eq_getElem?_getD, List.getElem?_eq_getElem (by omega)]; exact List.getElem_mem _)
      have hBk : B * (k : Int) ≤ 1000000000000 * 200 := Int.le_trans (Int.mul_le_mul_of_nonneg_right hB.2 (by omega)) (Int.mul_le_mul_of_nonneg_left (by omega) (by omega))
      have sw := fun L => prt_put (lim := lim) (y := p.w) (x := 0) hq (i := M.length - 1) (by omega) (by omega) rfl L
      have hput := hq.put (l' := M.set (M.length - 1) (addW (M.getD (M.length - 1) default) p.w)) (by simp)
      have hputx := hq.setX x3 (Nat.le_refl _) (cs := prC.all (M.set (M.length - 1) (addW (M.getD (M.length - 1) default) p.w)))
      cases hsm : sameS (M.getD (M.length - 1) default) p with
      | true =>
        have hmg1 : mg1 M p = M.set (M.length - 1) (addW (M.getD (M.length - 1) default) p.w) := by unfold mg1; rw [if_pos ⟨by omega, hsm⟩]
        rw [hmg1]
        have h3 : (M.getD (M.length - 1) default).l = p.l ∧ (M.getD (M.length - 1) default).t = p.t ∧ (M.getD (M.length - 1) default).b = p.b := by simpa [sameS] using hsm
        simp (disch := omega) [f12, f13, f14, f4, hS3.at ht, ld, lpId_ept, lpId_eptf, lastO, lastS, splice44, iz4, hq.lst.len, hg0, hgn, ls, wrap_i64, am, fa0, fa3, sh, gw, rd43, rd4_3, veqA_3, eq_true h3.1, eq_true h3.2.1, eq_true h3.2.2, sw, -vstore]
        exact ⟨by omega, hputx, hput⟩
      | false =>
        have hmg1 : mg1 M p = M ++ [p] := by unfold mg1; rw [if_neg (by rw [hsm]; simp)]
        rw [hmg1]
        obtain ⟨v', H', a1, a2, a3⟩ := hap
        unfold sameS at hsm
        simp (disch := omega) [f12, f13, f14, f4, hS3.at ht, ld, lpId_ept, lpId_eptf, lastO, lastS, splice44, iz4, hq.lst.len, hg0, hgn, ls, wrap_i64, am, fa0, fa3, sh, gw, rd43, rd4_3, veqA_3, hsm, vbslice_some, splice, rd4_w, a1]
        exact ⟨by omega, a3, a2⟩
  · have hkS : k = S.length := by omega
    subst hkS
    simp [f4, hq.lst.stor]
    refine prt_Delete hq (by omega) l3 (by omega) fun H4 v4 l4 hoth4 hpre => ?_
    rw [hcol] at hpre
    have hx4 : HX H H4 := HX.of (by omega) fun b hb => by rw [hoth4 b (by omega)]; exact (hx2.trans x3).same hb
    have := hK H4 v4 hx4 (hpre.le (by omega))
    simp [hpre.lst.stor]
    exact this
end
/-- the greatest common divisor of the first weights -/
def gN (L : List Prt) : Nat → Nat
  | 0 => 0
  | n + 1 => Nat.gcd (gN L n) (L.getD n default).w.toNat
theorem gN_pos {L : List Prt} : ∀ {n : Nat}, 0 < n → n ≤ L.length → (∀ i, i < L.length → 1 ≤ (L.getD i default).w) → 0 < gN L n
  | n + 1, _, hn, h => by
    have := h n (by omega)
    exact Nat.gcd_pos_of_pos_right _ (by omega)
def dvW (g : Nat) (p : Prt) : Prt := ⟨p.l, p.t, p.b, p.w.tdiv g⟩
def ltB (g : Nat) (L : List Prt) (i : Nat) : Bool := decide ((dvW g (L.getD i default)).w ≤ 1000)
def nrmP (L : List Prt) : List Prt × Int :=
  if 6 < L.length then ([], 4) else if allN (ltB (gN L L.length) L) L.length = true then (L.map (dvW (gN L L.length)), 0) else ([], 4)
theorem splice_front {A R xs : List V} {o : Nat} (h : o + xs.length ≤ A.length) : splice (A ++ R) o xs = splice A o xs ++ R := by
  simp only [splice]
  rw [List.take_append_of_le_length (by omega), List.drop_append_of_le_length (by omega), List.append_assoc, List.append_assoc, List.append_assoc]
def setW (p : Prt) (x : Int) : Prt := ⟨p.l, p.t, p.b, x⟩
theorem all_setW {l : List Prt} {i : Nat} {x : Int} (hi : i < l.length) : splice (prC.all l) (i * 4 + 3) [.int .i64 x] = prC.all (l.set i (setW (l.getD i default) x)) := by
  have o : OwnT 0 prC [.row (prC.all l) true] (.sl 0 0 l.length 4) l := .row (by omega) rfl
  have := o.store (lim := 0) (i := i) (j := 3) (x := .int .i64 x) (y := setW (l.getD i default) x) (L := []) (sz := 1) (by omega) hi rfl rfl (by omega) (by simp [prC, Prt.cells, splice, cellsV, setW])
  have hle : i * 4 + 3 + 1 ≤ (prC.all l).length := by rw [Cod.all_len]; omega
  have hs : stor (.int .i64 x) = true := rfl
  have hc : cellsV (.int .i64 x) = [.int .i64 x] := rfl
  simp only [vstore, eptf, hs, if_true, hc, List.length_singleton, vstoreH, Nat.zero_le, List.getElem?_cons_zero, hle, setH, List.set_cons_zero, Option.some.injEq, Prod.mk.injEq, true_and, List.cons.injEq, Blk.row.injEq, and_true, Nat.zero_add] at this
  exact this
section
variable {lim : Nat} {H : Hp} {K : V → Hp → Prop} {v w : V} {l m : List Prt} {x y u1 u2 u3 : Int}
/-- a row of one's own, its front and its rest -/
structure RowP (n : Nat) (H : Hp) (v : V) (l : List Prt) (R : List V) : Prop where
  row : ∃ b, n ≤ b ∧ v = .sl b 0 l.length 4 ∧ H[b]? = some (.row (prC.all l ++ R) true)
theorem PreT.cut {n : Nat} (h : PreT n H v l) (h0 : 0 < l.length) : ∃ R, RowP n H v l R := by
  cases h with
  | nil => simp at h0
  | row h1 h2 h3 h4 =>
    rename_i b cs
    refine ⟨cs.drop (l.length * 4), ⟨b, h1, rfl, ?_⟩⟩
    rw [← h4, List.take_append_drop]
    exact h2
variable {n : Nat} {R : List V}
theorem RowP.put (h : RowP n H v l R) (hm : m.length = l.length) : RowP n (setH H v (prC.all m ++ R)) v m R := by
  obtain ⟨b, h1, rfl, h2⟩ := h
  have hb := (List.getElem?_eq_some_iff.1 h2).1
  exact ⟨b, h1, by rw [hm], by simp only [setH]; exact List.getElem?_set_self hb⟩
theorem RowP.pre (h : RowP n H v l R) : PreT n H v l := by
  obtain ⟨b, h1, rfl, h2⟩ := h
  exact .row h1 h2 (by rw [List.length_append, Cod.all_len]; omega) (by rw [List.take_append_of_le_length (by rw [Cod.all_len]; omega), List.take_of_length_le (by rw [Cod.all_len]; omega)])
theorem RowP.store (h : RowP n H v l R) (hlim : lim ≤ n) {i : Nat} (hi : i < l.length) (x : Int) (L : Lo) : vstore lim L H (eptf 4 v i 3) (.int .i64 x) 1 = some (L, setH H v (prC.all (l.set i (setW (l.getD i default) x)) ++ R)) := by
  obtain ⟨b, h1, rfl, h2⟩ := h
  have hal : (prC.all l).length = l.length * 4 := Cod.all_len
  have hs : stor (.int .i64 x) = true := rfl
  have hc : cellsV (.int .i64 x) = [.int .i64 x] := rfl
  have hle : 0 + i * 4 + 3 + 1 ≤ (prC.all l ++ R).length := by rw [List.length_append, hal]; omega
  have e : splice (prC.all l ++ R) (0 + i * 4 + 3) [.int .i64 x] = prC.all (l.set i (setW (l.getD i default) x)) ++ R := by
    rw [splice_front (by rw [hal]; simp; omega), Nat.zero_add, all_setW hi]
  simp only [vstore, eptf, hs, if_true, hc, List.length_singleton, vstoreH, show lim ≤ b by omega, h2, hle, e, setH]
theorem RowP.old (h : RowP n H v l R) {cs : List V} {b' : Nat} (hb : b' < n) : (setH H v cs)[b']? = H[b']? := by
  obtain ⟨b, h1, rfl, h2⟩ := h
  simp only [setH]
  rw [List.getElem?_set_ne (by omega)]
theorem RowP.twice (h : RowP n H v l R) {cs ds : List V} : setH (setH H v cs) v ds = setH H v ds := by
  obtain ⟨b, h1, rfl, h2⟩ := h
  simp only [setH, List.set_set]
theorem RowP.same (h : RowP n H v l R) : setH H v (prC.all l ++ R) = H := by
  obtain ⟨b, h1, rfl, h2⟩ := h
  exact set_same h2
theorem RowP.len2 (h : RowP n H v l R) {cs : List V} : (setH H v cs).length = H.length := by
  obtain ⟨b, h1, rfl, h2⟩ := h
  simp [setH]
theorem dye_normal (hp : PreT n H v l) (hlim : lim ≤ n) (hl : l.length ≤ 1000) (hw : ∀ i, i < l.length → 1 ≤ (l.getD i default).w ∧ (l.getD i default).w ≤ 1000000000000000)
    (hK : ∀ H' v', H'.length = H.length → (∀ b, b < n → H'[b]? = H[b]?) → PreT n H' v' (nrmP l).1 → K (.tup [v', .int .i64 (nrmP l).2]) H') : VCall tbl lim 42 [v] H K := by
  refine VCall_fn tbl_at42 rfl ?_
  have e6 : decide (6 < (l.length : Int)) = decide (6 < l.length) := by simp only [decide_eq_decide]; omega
  simp [vf42, hp.lst.len]
  refine wLoop_up l.length (fun k fr L H' => (fr 0 = v ∧ fr 8 = v ∧ fr 9 = .int .i64 l.length ∧ fr 10 = .int .i64 k ∧ fr 4 = .int .i64 (gN l k : Nat)) ∧ H' = H) ⟨by simp [hp.lst.len, gN], rfl⟩ ?_
  rintro k hk fr L H' ⟨⟨f0, f8, f9, f10, f4⟩, e0⟩
  have e0 := e0.symm
  subst e0
  simp [f0, f8, f9, f10, f4]
  refine cond_dec (fun ht => ?_) fun hfl => ?_
  · have ht : k < l.length := by omega
    have ld := fun L => prt_load hp.lst ht (L := L)
    have hwk := hw k ht
    have hg1 : gN l (k + 1) = Nat.gcd (gN l k) (l.getD k default).w.toNat := rfl
    obtain ⟨wn, hwn⟩ : ∃ wn : Nat, (l.getD k default).w = wn := ⟨(l.getD k default).w.toNat, by omega⟩
    have hwt : (l.getD k default).w.toNat = wn := by omega
    rw [hwt] at hg1
    rw [hwn] at ld
    simp (disch := omega) [f0, f8, f9, f10, f4, hp.lst.at ht, ld, lpId_ept, lastO, lastS, splice44, iz4, rd4_3]
    refine dye_gcd ?_
    rw [← hg1]
    simp (disch := omega) [f0, f8, f9, f10, wrap_i64]
    omega
  have hkl : k = l.length := by omega
  subst hkl
  clear hk hfl f8 f9 f10
  by_cases h6 : 6 < l.length
  · have e : nrmP l = ([], 4) := by unfold nrmP; rw [if_pos h6]
    have := hK H .snil rfl (fun _ _ => rfl) (by rw [e]; exact .nil)
    rw [e] at this
    simp [f0, hp.lst.len, e6, h6]
    exact this
  simp [f0, hp.lst.len, e6, h6]
  by_cases h0 : l.length = 0
  · have hl0 : l = [] := List.length_eq_zero_iff.1 h0
    subst hl0
    have := hK H v rfl (fun _ _ => rfl) hp
    refine wLoop_round ?_
    have hlen := hp.lst.len
    have hst := hp.lst.stor
    simp [f0, hlen, hst]
    exact this
  obtain ⟨R, hR⟩ := hp.cut (by omega)
  have hgp := gN_pos (L := l) (n := l.length) (by omega) (Nat.le_refl _) fun i hi => (hw i hi).1
  generalize hg : gN l l.length = g at *
  refine wLoop_up l.length (fun i fr L H' => ∃ M, (fr 0 = v ∧ fr 4 = .int .i64 (g : Nat) ∧ fr 23 = .int .i64 l.length ∧ fr 24 = .int .i64 i) ∧ H' = setH H v (prC.all M ++ R) ∧ M.length = l.length ∧ (∀ j, M.getD j default = if j < i then dvW g (l.getD j default) else l.getD j default) ∧ allN (ltB g l) i = true) ⟨l, by simp [f0, f4, hp.lst.len], hR.same.symm, rfl, fun j => by simp, rfl⟩ ?_
  clear f0 f4
  rintro i hi fr L H' ⟨M, ⟨f0, f4, f23, f24⟩, e0, hM, hMj, hall⟩
  subst e0
  have hR2 := hR.put (m := M) hM
  simp [f0, f4, f23, f24]
  refine cond_dec (fun ht => ?_) fun hfl => ?_
  · have ht : i < l.length := by omega
    have hwi := hw i ht
    have hMi : M.getD i default = l.getD i default := by rw [hMj i, if_neg (by omega)]
    have ad := hR2.pre.lst.at (i := i) (by omega)
    have fa3 : vfaddr 3 (ept 4 v i) = some (eptf 4 v i 3) := hR2.pre.lst.faddr (by omega)
    have gw := fun L => prt_get hR2.pre.lst (i := i) (j := 3) (by omega) (by omega) (L := L)
    have hq1 : 0 ≤ (l.getD i default).w.tdiv g ∧ (l.getD i default).w.tdiv g ≤ (l.getD i default).w := by
      rw [Int.tdiv_eq_ediv_of_nonneg (by omega)]
      exact ⟨Int.ediv_nonneg (by omega) (by omega), Int.ediv_le_self _ (by omega)⟩
    have hdw : (dvW g (l.getD i default)).w = (l.getD i default).w.tdiv g := rfl
    have hg0 : ¬ (g : Int) = 0 := by omega
    have sw := fun L => hR2.store (lim := lim) hlim (i := i) (by omega) ((l.getD i default).w.tdiv g) L
    simp only [hR.twice] at sw
    have hMs : M.set i (setW (M.getD i default) ((l.getD i default).w.tdiv g)) = M.set i (dvW g (l.getD i default)) := by rw [hMi]; rfl
    simp only [hMs] at sw
    have hM3 : (M.set i (dvW g (l.getD i default))).length = l.length := by simpa using hM
    have hR3 := hR.put (m := M.set i (dvW g (l.getD i default))) hM3
    have ad3 := hR3.pre.lst.at (i := i) (by omega)
    have gw3 := fun L => prt_get hR3.pre.lst (i := i) (j := 3) (by omega) (by omega) (L := L)
    have hget : (M.set i (dvW g (l.getD i default))).getD i default = dvW g (l.getD i default) := by
      rw [List.getD_eq_getElem?_getD, List.getElem?_set_self (by omega)]; rfl
    simp only [hget, hdw] at gw3
    simp only [hMi] at gw
    generalize hqq : (l.getD i default).w.tdiv g = qq at *
    have hwq : IntKind.i64.wrap qq = qq := wrap_i64 (by omega) (by omega)
    simp (disch := omega) [f0, f4, f23, f24, ad, fa3, gw, lpId_ept, lpId_eptf, rd4_3, hg0, hqq, hwq, sw, ad3, gw3, -vstore]
    refine cond_dec (fun hbig => ?_) fun hbig => ?_
    · have hno : allN (ltB g l) l.length = false := allN_not ht (by simp only [ltB, hdw, hqq]; exact decide_eq_false (by omega))
      have e : nrmP l = ([], 4) := by unfold nrmP; rw [if_neg h6, hg, if_neg (by rw [hno]; simp)]
      have := hK (setH H v (prC.all (M.set i (dvW g (l.getD i default))) ++ R)) .snil hR.len2 (fun b hb => hR.old hb) (by rw [e]; exact .nil)
      rw [e] at this
      simp
      exact this
    · simp (disch := omega) [f0, f4, f23, f24, wrap_i64]
      refine ⟨by omega, M.set i (dvW g (l.getD i default)), rfl, hM3, fun j => ?_, ?_⟩
      · by_cases e : j = i
        · subst e; rw [hget, if_pos (by omega)]
        · have : (M.set i (dvW g (l.getD i default))).getD j default = M.getD j default := by
            rw [List.getD_eq_getElem?_getD, List.getElem?_set_ne (fun h => e h.symm), ← List.getD_eq_getElem?_getD]
          rw [this, hMj j]
          by_cases hji : j < i
          · rw [if_pos hji, if_pos (by omega)]
          · rw [if_neg hji, if_neg (by omega)]
      · simp only [allN, hall, Bool.true_and, ltB, hdw, hqq]
        exact decide_eq_true (by omega)
  · have hil : i = l.length := by omega
    subst hil
    have hMe : M = l.map (dvW g) := by
      refine same_of (by simpa using hM) fun j hj => ?_
      rw [hMj j, if_pos (by omega), List.getD_eq_getElem?_getD, List.getD_eq_getElem?_getD, List.getElem?_map, List.getElem?_eq_getElem (by omega)]
      rfl
    have e : nrmP l = (M, 0) := by unfold nrmP; rw [if_neg h6, hg, if_pos hall, hMe]
    have := hK (setH H v (prC.all M ++ R)) v hR.len2 (fun b hb => hR.old hb) (by rw [e]; exact hR2.pre)
    rw [e] at this
    have hst := hR2.pre.lst.stor
    simp [f0, hst]
    exact this
end
end Go.Proofs.Ytkmcdiajcnejiaa.Vm
