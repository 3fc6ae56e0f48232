/- Package plot over the machine: quick changes; PlotQuick. -/
import Derived.Test.YtdipmhdekjlifaaPlD
namespace Go.Proofs.Ytdipmhdekjlifaa.Vm
open Go
set_option maxRecDepth 100000
set_option linter.unusedSimpArgs false
set_option linter.unusedVariables false
attribute [-simp] List.getD_eq_getElem?_getD
structure Pr where
  x : Int
  y : Int
  deriving Inhabited
def Pr.cells (e : Pr) : List V := [.int .i64 e.x, .int .i64 e.y]
def prC : Cod Pr 2 := ⟨Pr.cells, fun _ => rfl⟩
def laterB (p : Ply) (i j : Nat) : Bool := decide ((p.W.getD j default).a = (p.W.getD i default).a) && decide ((p.W.getD i default).f < (p.W.getD j default).f)
def bestN (p : Ply) (i : Nat) : Nat → Int
  | 0 => -1
  | n + 1 => if laterB p i n = true ∧ (bestN p i n < 0 ∨ (p.W.getD n default).f < (p.W.getD (bestN p i n).toNat default).f) then (n : Int) else bestN p i n
theorem bestN_spec (p : Ply) (i : Nat) : ∀ n : Nat, (bestN p i n = -1 ∧ ∀ j, j < n → laterB p i j = false) ∨ (∃ b : Nat, bestN p i n = b ∧ b < n ∧ laterB p i b = true ∧ ∀ j, j < n → laterB p i j = true → (p.W.getD b default).f ≤ (p.W.getD j default).f)
  | 0 => Or.inl ⟨rfl, fun j h => absurd h (by omega)⟩
  | n + 1 => by
    rcases bestN_spec p i n with ⟨h1, h2⟩ | ⟨b, h1, h2, h3, h4⟩
    · simp only [bestN, h1]
      by_cases hl : laterB p i n = true
      · rw [if_pos ⟨hl, Or.inl (by omega)⟩]
        refine Or.inr ⟨n, rfl, by omega, hl, fun j hj hlj => ?_⟩
        by_cases e : j = n
        · subst e; exact Int.le_refl _
        · rw [h2 j (by omega)] at hlj; cases hlj
      · rw [if_neg (fun h => hl h.1)]
        refine Or.inl ⟨rfl, fun j hj => ?_⟩
        by_cases e : j = n
        · subst e; simpa using hl
        · exact h2 j (by omega)
    · simp only [bestN, h1, Int.toNat_natCast]
      by_cases hl : laterB p i n = true ∧ (p.W.getD n default).f < (p.W.getD b default).f
      · rw [if_pos ⟨hl.1, Or.inr hl.2⟩]
        refine Or.inr ⟨n, rfl, by omega, hl.1, fun j hj hlj => ?_⟩
        by_cases e : j = n
        · subst e; exact Int.le_refl _
        · have := h4 j (by omega) hlj; have := hl.2; omega
      · rw [if_neg (fun h => hl ⟨h.1, h.2.resolve_left (by omega)⟩)]
        refine Or.inr ⟨b, rfl, by omega, h3, fun j hj hlj => ?_⟩
        by_cases e : j = n
        · subst e
          have : ¬ (p.W.getD j default).f < (p.W.getD b default).f := fun h => hl ⟨hlj, h⟩
          omega
        · exact h4 j (by omega) hlj
def btwB (p : Ply) (i k n : Nat) : Bool := laterB p i n && decide ((p.W.getD n default).f < (p.W.getD k default).f)
def nextB (p : Ply) (i k : Nat) : Bool :=
  decide ((p.W.getD i default).a = (p.W.getD k default).a) && (decide ((p.W.getD i default).f < (p.W.getD k default).f) && allN (fun n => !btwB p i k n) p.W.length)
theorem nextB_iff {p : Ply} (hval : valP p = 0) {i k : Nat} (hi : i < p.W.length) (hk : k < p.W.length) : nextB p i k = decide (bestN p i p.W.length = k) := by
  obtain ⟨g1, g2, g3, g4, g5⟩ := valP_ok hval
  have hf : ∀ u v, u < p.W.length → v < p.W.length → (p.W.getD u default).a = (p.W.getD v default).a → (p.W.getD u default).f = (p.W.getD v default).f → u = v := by
    intro u v hu hv ha he
    apply Classical.byContradiction
    intro hne
    have key : ∀ x y, x < p.W.length → y < x → (p.W.getD x default).a = (p.W.getD y default).a → (p.W.getD x default).f = (p.W.getD y default).f → False := by
      intro x y hx hy ha he
      have := g5 x hx y hy
      simp [oneB, ha, tightB, he] at this
    rcases Nat.lt_or_gt_of_ne hne with h | h
    · exact key v u hv h ha.symm he.symm
    · exact key u v hu h ha he
  have hs := bestN_spec p i p.W.length
  rw [Bool.eq_iff_iff]
  constructor
  · intro h
    simp only [nextB, Bool.and_eq_true, decide_eq_true_eq] at h ⊢
    obtain ⟨h1, h2, h3⟩ := h
    have hl : laterB p i k = true := by simp [laterB, h1, h2]
    rcases hs with ⟨s1, s2⟩ | ⟨b, s1, s2, s3, s4⟩
    · rw [s2 k hk] at hl; cases hl
    · have q1 := s4 k hk hl
      have q2 := allN_at h3 s2
      simp [btwB, s3] at q2
      have s3' := s3
      simp only [laterB, Bool.and_eq_true, decide_eq_true_eq] at s3'
      rw [s1, hf b k s2 hk (s3'.1.trans h1) (by omega)]
  · intro h
    simp only [decide_eq_true_eq] at h
    rcases hs with ⟨s1, s2⟩ | ⟨b, s1, s2, s3, s4⟩
    · omega
    · have : b = k := by omega
      subst this
      have s3' := s3
      simp only [laterB, Bool.and_eq_true, decide_eq_true_eq] at s3'
      simp only [nextB, Bool.and_eq_true, decide_eq_true_eq]
      refine ⟨s3'.1.symm, s3'.2, allN_of fun n hn => ?_⟩
      cases hl : laterB p i n with
      | false => simp [btwB, hl]
      | true => have := s4 n hn hl; simp [btwB, hl]; omega
def quickB (p : Ply) (m : Int) (i k : Nat) : Bool := nextB p i k && decide ((p.W.getD k default).f < (p.W.getD i default).t + m)
def quickI (p : Ply) (m : Int) (i n : Nat) : List Pr := ((List.range n).filter (quickB p m i)).map fun k : Nat => ⟨(i : Int), (k : Int)⟩
def quickL (p : Ply) (m : Int) (n : Nat) : List Pr := (List.range n).flatMap fun i => quickI p m i p.W.length
theorem quickI_succ {p : Ply} {m : Int} {i n : Nat} : quickI p m i (n + 1) = if quickB p m i n = true then quickI p m i n ++ [⟨i, n⟩] else quickI p m i n := by
  simp only [quickI, List.range_succ, List.filter_append, List.map_append]
  by_cases h : quickB p m i n = true
  · simp [h]
  · simp [h]
theorem quickL_succ {p : Ply} {m : Int} {n : Nat} : quickL p m (n + 1) = quickL p m n ++ quickI p m n p.W.length := by
  simp [quickL, List.range_succ]
theorem filter_one {q : Nat → Bool} {b : Nat} : ∀ {n : Nat}, (∀ k, k < n → q k = true → k = b) → (List.range n).filter q = if b < n ∧ q b = true then [b] else []
  | 0, _ => by simp
  | n + 1, h => by
    rw [List.range_succ, List.filter_append, filter_one (n := n) fun k hk => h k (by omega)]
    by_cases e : n = b
    · subst e
      cases hq : q n <;> simp [hq]
    · have hn : q n = false := by
        cases hq : q n with
        | false => rfl
        | true => exact absurd (h n (by omega) hq) e
      simp only [List.filter_cons, hn, Bool.false_eq_true, if_false, List.filter_nil, List.append_nil]
      by_cases hb : b < n ∧ q b = true
      · rw [if_pos hb, if_pos ⟨by omega, hb.2⟩]
      · rw [if_neg hb, if_neg (fun h2 => hb ⟨by omega, h2.2⟩)]
theorem quickI_all {p : Ply} (hval : valP p = 0) {m : Int} {i : Nat} (hi : i < p.W.length) :
    quickI p m i p.W.length = if 0 ≤ bestN p i p.W.length ∧ (p.W.getD (bestN p i p.W.length).toNat default).f < (p.W.getD i default).t + m then [⟨i, bestN p i p.W.length⟩] else [] := by
  have hq : ∀ k, k < p.W.length → quickB p m i k = true → k = (bestN p i p.W.length).toNat := by
    intro k hk h
    simp only [quickB, nextB_iff hval hi hk, Bool.and_eq_true, decide_eq_true_eq] at h
    omega
  unfold quickI
  rw [filter_one hq]
  rcases bestN_spec p i p.W.length with ⟨s1, s2⟩ | ⟨b, s1, s2, s3, s4⟩
  · rw [if_neg, if_neg (by omega)]
    · rfl
    · rintro ⟨h1, h2⟩
      simp only [quickB, nextB_iff hval hi h1, Bool.and_eq_true, decide_eq_true_eq] at h2
      omega
  · simp only [s1, Int.toNat_natCast]
    have e : quickB p m i b = decide ((p.W.getD b default).f < (p.W.getD i default).t + m) := by simp [quickB, nextB_iff hval hi s2, s1]
    rw [e]
    by_cases h : (p.W.getD b default).f < (p.W.getD i default).t + m
    · rw [if_pos ⟨s2, by simpa using h⟩, if_pos ⟨by omega, h⟩]; rfl
    · rw [if_neg (fun h2 => h (by simpa using h2.2)), if_neg (fun h2 => h h2.2)]; rfl
theorem quickI_len {p : Ply} (hval : valP p = 0) {m : Int} {i n : Nat} (hi : i < p.W.length) (hn : n ≤ p.W.length) : (quickI p m i n).length ≤ 1 := by
  have hq : ∀ k, k < n → quickB p m i k = true → k = (bestN p i p.W.length).toNat := by
    intro k hk h
    simp only [quickB, nextB_iff hval hi (show k < p.W.length by omega), Bool.and_eq_true, decide_eq_true_eq] at h
    omega
  unfold quickI
  rw [filter_one hq]
  split <;> simp
theorem quickL_len {p : Ply} (hval : valP p = 0) {m : Int} : ∀ {n : Nat}, n ≤ p.W.length → (quickL p m n).length ≤ n
  | 0, _ => by simp [quickL]
  | n + 1, h => by
    rw [quickL_succ, List.length_append]
    have := quickL_len hval (m := m) (n := n) (by omega)
    have := quickI_len hval (m := m) (i := n) (n := p.W.length) (by omega) (Nat.le_refl _)
    omega
def quickR (p : Ply) (m : Int) : List Pr := if valP p = 0 ∧ minB m = true then quickL p m p.W.length else []
def quickE (p : Ply) (m : Int) : Int := if valP p ≠ 0 then valP p else if minB m = true then 0 else 1
section
variable {lim : Nat} {H : Hp} {K : V → Hp → Prop} {wv : V} {W : List Wr} {r c s a m : Int} {v w : Wr}
theorem plot_next (hw : LstV wrC H wv W) (hval : valP ⟨W, r, c⟩ = 0) {i : Nat} (hi : i < W.length) (hK : K (.int .i64 (bestN ⟨W, r, c⟩ i W.length)) H) : VCall tbl lim 66 [.agg [wv, .int .i64 r, .int .i64 c], .int .i64 i] H K := by
  refine VCall_fn tbl_at66 rfl ?_
  obtain ⟨g1, g2, g3, g4, g5⟩ := valP_ok hval
  simp only at g1 g2 g3 g4 g5
  have fa : ∀ i, i < W.length → ∀ j, vfaddr j (ept 4 wv i) = some (eptf 4 wv i j) := fun i hi j => hw.faddr hi
  simp [vf66, hw.len, hw.one]
  refine wLoop_up W.length (fun j fr L H' => (fr 1 = .int .i64 i ∧ fr 2 = .lp 0 0 ∧ fr 10 = wv ∧ fr 11 = .int .i64 W.length ∧ fr 12 = .int .i64 j ∧ fr 5 = .int .i64 (bestN ⟨W, r, c⟩ i j)) ∧ L[0]? = some [wv, .int .i64 r, .int .i64 c] ∧ H' = H) ⟨by simp [bestN], rfl, rfl⟩ ?_
  rintro j hj fr L H' ⟨⟨f1, f2, f10, f11, f12, f5⟩, l0, e0⟩
  have e0 := e0.symm
  subst e0
  simp [f1, f2, f10, f11, f12, f5]
  refine cond_dec (fun ht => ?_) fun hfl => ?_
  · have ht : j < W.length := by omega
    have hs := bestN_spec ⟨W, r, c⟩ i j
    simp only at hs
    by_cases ha : (W.getD j default).a = (W.getD i default).a
    · by_cases hl : (W.getD i default).f < (W.getD j default).f
      · have hlb : laterB ⟨W, r, c⟩ i j = true := by simp [laterB, eq_true ha, hl]
        rcases hs with ⟨s1, s2⟩ | ⟨b, s1, s2, s3, s4⟩
        · simp (disch := omega) [f1, f2, f10, f11, f12, f5, hw.at ht, hw.at hi, fa j ht, fa i hi, wr_get hw, wr_load hw, lastO, lastS, splice44, iz4, l0, keepL l0, lpId_ept, lpId_eptf, eq_true ha, hl, s1, wrap_i64, bestN, hlb]
          omega
        · have hb : b < W.length := by omega
          have ab : viaddrS 4 wv (.int .i64 (b : Int)) = some (ept 4 wv b) := hw.at hb
          by_cases hc : (W.getD j default).f < (W.getD b default).f
          · simp (disch := omega) [f1, f2, f10, f11, f12, f5, hw.at ht, hw.at hi, ab, fa j ht, fa i hi, fa b hb, wr_get hw, wr_load hw, lastO, lastS, splice44, iz4, l0, keepL l0, lpId_ept, lpId_eptf, eq_true ha, hl, s1, wrap_i64, bestN, hlb, hc, show ¬ (b : Int) < 0 by omega]
            omega
          · simp (disch := omega) [f1, f2, f10, f11, f12, f5, hw.at ht, hw.at hi, ab, fa j ht, fa i hi, fa b hb, wr_get hw, wr_load hw, lastO, lastS, splice44, iz4, l0, keepL l0, lpId_ept, lpId_eptf, eq_true ha, hl, s1, wrap_i64, bestN, hlb, hc, show ¬ (b : Int) < 0 by omega]
            omega
      · have hlb : laterB ⟨W, r, c⟩ i j = false := by simp [laterB, hl]
        simp (disch := omega) [f1, f2, f10, f11, f12, f5, hw.at ht, hw.at hi, fa j ht, fa i hi, wr_get hw, wr_load hw, lastO, lastS, splice44, iz4, l0, keepL l0, lpId_ept, lpId_eptf, eq_true ha, hl, wrap_i64, bestN, hlb]
        omega
    · have hlb : laterB ⟨W, r, c⟩ i j = false := by simp [laterB, ha]
      simp (disch := omega) [f1, f2, f10, f11, f12, f5, hw.at ht, hw.at hi, fa j ht, fa i hi, wr_get hw, wr_load hw, lastO, lastS, splice44, iz4, l0, keepL l0, lpId_ept, lpId_eptf, eq_false ha, wrap_i64, bestN, hlb]
      omega
  · have : j = W.length := by omega
    subst this
    simp [f5]
    exact hK
theorem ref_next (hw : LstV wrC H wv W) (hval : valP ⟨W, r, c⟩ = 0) {i k : Nat} (hi : i < W.length) (hk : k < W.length) (hK : K (.bool (nextB ⟨W, r, c⟩ i k)) H) :
    VCall tbl lim 67 [.agg [wv, .int .i64 r, .int .i64 c], .int .i64 i, .int .i64 k] H K := by
  refine VCall_fn tbl_at67 rfl ?_
  obtain ⟨g1, g2, g3, g4, g5⟩ := valP_ok hval
  simp only at g1 g2 g3 g4 g5
  simp (disch := omega) [vf67, hw.one, hw.at hi, hw.at hk, wr_load hw, lpId_ept, iz4, splice44]
  refine cond_bool (fun hb => ?_) fun hb => ?_
  · have : nextB ⟨W, r, c⟩ i k = false := by
      simp at hb
      by_cases ha : (W.getD i default).a = (W.getD k default).a
      · have : ¬ (W.getD i default).f < (W.getD k default).f := by
          rcases hb with h | h
          · exact absurd ha h
          · omega
        simp [nextB, this]
      · simp [nextB, ha]
    rw [this] at hK
    simp; exact hK
  have hb : (W.getD i default).a = (W.getD k default).a ∧ (W.getD i default).f < (W.getD k default).f := by
    simp at hb
    exact ⟨by apply Classical.byContradiction; intro h; exact absurd hb (by simp [h]), by omega⟩
  have e : nextB ⟨W, r, c⟩ i k = allN (fun n => !btwB ⟨W, r, c⟩ i k n) W.length := by
    simp only [nextB, eq_true hb.1, hb.2, decide_true, Bool.true_and]
  rw [e] at hK
  simp
  refine wLoop_up W.length (fun n fr L H' => (fr 3 = .lp 0 0 ∧ fr 7 = .lp 1 0 ∧ fr 8 = .lp 2 0 ∧ fr 9 = .int .i64 n) ∧ L[0]? = some [wv, .int .i64 r, .int .i64 c] ∧ L[1]? = some (W.getD i default).cells ∧ L[2]? = some (W.getD k default).cells ∧ H' = H ∧ allN (fun n => !btwB ⟨W, r, c⟩ i k n) n = true) ⟨by simp, rfl, rfl, rfl, rfl, rfl⟩ ?_
  rintro n hn fr L H' ⟨⟨f3, f7, f8, f9⟩, l0, l1, l2, e0, hz⟩
  have e0 := e0.symm
  subst e0
  simp [f3, f7, f8, f9, l0, hw.len]
  refine cond_dec (fun ht => ?_) fun hfl => ?_
  · have ht : n < W.length := by omega
    have l1' := keepL l1
    have l2' := keepL l2
    simp only [Wr.cells] at l1' l2'
    have aux : ∀ b : Bool, b = btwB ⟨W, r, c⟩ i k n → b = true → K (.bool false) H := fun b e h => by
      have := allN_not (f := fun n => !btwB ⟨W, r, c⟩ i k n) ht (by simp only [← e, h]; rfl)
      rw [this] at hK; exact hK
    by_cases ha : (W.getD n default).a = (W.getD i default).a
    · by_cases hl : (W.getD i default).f < (W.getD n default).f
      · have hlb : laterB ⟨W, r, c⟩ i n = true := by simp [laterB, eq_true ha, hl]
        simp (disch := omega) [f3, f7, f8, f9, l0, hw.at ht, wr_load hw, lastO, lastS, splice44, iz4, keepL l0, l1', l2', eq_true ha, hl]
        refine cond_dec (fun hc => ?_) fun hc => ?_
        · simp
          exact aux true (by simp [btwB, hlb, hc]) rfl
        · have ho : btwB ⟨W, r, c⟩ i k n = false := by simp [btwB, hc]
          simp (disch := omega) [f3, f7, f8, f9, wrap_i64, allN, hz, ho, hc, keepL l0, l1', l2', Wr.cells]
          omega
      · have hlb : laterB ⟨W, r, c⟩ i n = false := by simp [laterB, hl]
        have ho : btwB ⟨W, r, c⟩ i k n = false := by simp [btwB, hlb]
        simp (disch := omega) [f3, f7, f8, f9, l0, hw.at ht, wr_load hw, lastO, lastS, splice44, iz4, keepL l0, l1', l2', eq_true ha, hl, wrap_i64, allN, hz, ho, Wr.cells]
        omega
    · have hlb : laterB ⟨W, r, c⟩ i n = false := by simp [laterB, ha]
      have ho : btwB ⟨W, r, c⟩ i k n = false := by simp [btwB, hlb]
      simp (disch := omega) [f3, f7, f8, f9, l0, hw.at ht, wr_load hw, lastO, lastS, splice44, iz4, keepL l0, l1', l2', eq_false ha, wrap_i64, allN, hz, ho, Wr.cells]
      omega
  · have : n = W.length := by omega
    subst this
    rw [hz] at hK
    simp; exact hK
end
end Go.Proofs.Ytdipmhdekjlifaa.Vm
