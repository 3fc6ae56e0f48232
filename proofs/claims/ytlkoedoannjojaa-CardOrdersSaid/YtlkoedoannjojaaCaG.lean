/- Package card over the machine: CardValidates, CardSees. -/
import Derived.Test.YtlkoedoannjojaaCaF
namespace Go.Proofs.Ytlkoedoannjojaa.Vm
open Go
set_option maxRecDepth 100000
set_option linter.unusedSimpArgs false
set_option linter.unusedVariables false
attribute [-simp] List.getD_eq_getElem?_getD
theorem veqA_3 {a b c x y z : Int} : veqA false [.int .i64, .int .i64, .int .i64] (.agg [.int .i64 a, .int .i64 b, .int .i64 c]) (.agg [.int .i64 x, .int .i64 y, .int .i64 z]) = some (.bool (decide (a = x) && (decide (b = y) && decide (c = z)))) := by
  simp [veqA, eqCells, eqCell]
  rfl
def clkN (c : List En) (q : Int) : Int := if valE c = 0 then (cntE c q c.length : Int) else 0
def clkL (c : List En) : List V := [.int .i64 (clkN c 0), .int .i64 (clkN c 1), .int .i64 (clkN c 2)]
theorem clk_ok {c : List En} (h : valE c = 0) : clkL c = cntsL c c.length := by simp [clkL, clkN, h, cntsL]
theorem clk_no {c : List En} (h : valE c ≠ 0) : clkL c = [.int .i64 0, .int .i64 0, .int .i64 0] := by simp [clkL, clkN, h]
def longE (c : List En) (i : Nat) : Bool := !decide (200 < (c.getD i default).t.size)
def longC (c : List En) : Bool := decide (100 < c.length) || !allN (longE c) c.length
theorem long_short {c : List En} (h : longC c = false) : shortC c := by
  simp only [longC, Bool.or_eq_false_iff, decide_eq_false_iff_not, Bool.not_eq_false'] at h
  refine ⟨by omega, fun i hi => ?_⟩
  have := allN_at h.2 hi
  simp only [longE, Bool.not_eq_true', decide_eq_false_iff_not] at this
  omega
def nN (f : Nat → Bool) : Nat → Nat
  | 0 => 0
  | n + 1 => nN f n + if f n then 1 else 0
def sN (g : Nat → Nat) : Nat → Nat
  | 0 => 0
  | n + 1 => sN g n + g n
theorem nN_le {f : Nat → Bool} : ∀ {n : Nat}, nN f n ≤ n
  | 0 => Nat.le_refl _
  | n + 1 => by have := @nN_le f n; simp only [nN]; split <;> omega
theorem sN_le {g : Nat → Nat} {m : Nat} : ∀ {n : Nat}, (∀ i, i < n → g i ≤ m) → sN g n ≤ n * m
  | 0, _ => by simp [sN]
  | n + 1, h => by
    have h1 := sN_le (n := n) fun i hi => h i (by omega)
    have h2 := h n (by omega)
    simp only [sN, Nat.add_mul, Nat.one_mul]; omega
def inB (c : List En) (i k : Nat) : Bool := !seesB (c.getD i default) (c.getD k default) && !seesB (c.getD k default) (c.getD i default)
def indG (c : List En) (i : Nat) : Nat := nN (inB c i) i
def indP (c : List En) : Int := if valE c = 0 then (sN (indG c) c.length : Int) else 0
theorem ind_le {c : List En} (h : c.length ≤ 60) {i : Nat} (hi : i ≤ c.length) : sN (indG c) i ≤ 3600 := by
  have h1 := sN_le (g := indG c) (m := 60) (n := i) fun j hj => by have := @nN_le (inB c j) j; unfold indG; omega
  omega
/-- whether there are entries with both numbers, and the one has seen the other -/
def inR (c : List En) (i : Int) : Bool := decide (0 ≤ i ∧ i < c.length)
def hasE (c : List En) (i k : Int) : Int := if valE c ≠ 0 then valE c else if inR c i && inR c k then 0 else 5
def hasP (c : List En) (i k : Int) : Bool := if valE c ≠ 0 then false else if inR c i && inR c k then seesB (c.getD i.toNat default) (c.getD k.toNat default) else false
section
variable {lim : Nat} {H : Hp} {K : V → Hp → Prop} {v : V} {c : List En} {e f : En} {s : ByteArray} {n x y : Int}
theorem law_known (hlim : lim ≤ H.length) (hK : ∀ H', HX H H' → K (.bool true) H') : VCall tbl lim 12 [] H K :=
  vcall_known (n := 2000) (by kernel_rfl) hlim fun X => hK _ ⟨X, rfl⟩
theorem law_Long (hc : LstV enC H v c) (hK : K (.bool (longC c)) H) : VCall tbl lim 11 [v] H K := by
  refine VCall_fn tbl_at11 rfl ?_
  by_cases h : 100 < c.length
  · rw [longC, decide_eq_true h] at hK
    simp [vf11, hc.len, show (100 : Int) < c.length by omega]
    exact hK
  rw [longC, decide_eq_false h, Bool.false_or] at hK
  simp [vf11, hc.len, show ¬ (100 : Int) < c.length by omega]
  refine wLoop_up c.length (fun i fr L H' => (fr 0 = v ∧ fr 3 = .int .i64 i) ∧ H' = H ∧ allN (longE c) i = true) ⟨by simp, rfl, rfl⟩ ?_
  rintro i hi fr L H' ⟨⟨f0, f3⟩, e0, hz⟩
  have e0 := e0.symm
  subst e0
  simp [f0, f3, hc.len]
  refine cond_dec (fun ht => ?_) fun hfl => ?_
  · have ht : i < c.length := by omega
    simp (disch := omega) [f0, f3, hc.at ht, hc.faddr ht, en_get hc ht]
    refine cond_dec (fun h2 => ?_) fun h2 => ?_
    · have h : longE c i = false := by rw [longE, decide_eq_true (by omega)]; rfl
      rw [allN_not ht h] at hK
      simp; exact hK
    · have h : longE c i = true := by rw [longE, decide_eq_false (by omega)]; rfl
      simp (disch := omega) [f0, f3, wrap_i64, allN, h, hz]
      omega
  have : i = c.length := by omega
  subst this
  rw [hz] at hK
  simp
  exact hK
theorem card_Clock (hc : LstV enC H v c) (hsh : shortC c) (hK : ∀ H', HX H H' → K (.tup [.agg (clkL c), .int .i64 (valE c)]) H') : VCall tbl lim 13 [v] H K := by
  refine VCall_fn tbl_at13 rfl ?_
  simp [vf13, hc.stor]
  refine card_Validate hc hsh fun H1 x1 => ?_
  have hK := hK H1 x1
  have hc1 := hc.mono x1
  simp
  by_cases h : valE c = 0
  · rw [clk_ok h, h] at hK
    simp [h, hc.stor]
    refine card_clock hc1 (valE_small h) (fun i hi => val_pl h hi) ?_
    simp [cnt_sp, cnt_w, cnt_len]
    exact hK
  · rw [clk_no h] at hK
    simp [eq_false h]
    exact hK
theorem ref_Clock (hc : LstV enC H v c) (hsh : shortC c) (hK : K (.tup [.agg (clkL c), .int .i64 (valE c)]) H) : VCall tbl lim 14 [v] H K := by
  refine VCall_fn tbl_at14 rfl ?_
  simp [vf14, hc.stor]
  refine ref_Validate hc hsh ?_
  simp
  by_cases h : valE c = 0
  · rw [clk_ok h, h] at hK
    simp [h, hc.stor]
    refine ref_clock hc (valE_small h) (fun i hi => val_pl h hi) ?_
    simp [cnt_sp, cnt_w, cnt_len]
    exact hK
  · rw [clk_no h] at hK
    simp [eq_false h]
    exact hK
theorem law_CardValidates (hv : EnsV H v c ∧ c.length ≤ maxLen) (hlim : lim ≤ H.length) (hK : ∀ H', K (.bool true) H') : VCall tbl lim 3 [v] H K := by
  have hc := hv.1.1
  refine VCall_fn tbl_at3 rfl ?_
  simp [vf3, hc.stor]
  refine law_Long hc ?_
  cases hl : longC c
  · have hsh := long_short hl
    simp [hc.stor]
    refine card_Clock hc hsh fun H1 x1 => ?_
    have hc1 := hc.mono x1
    have l1 := x1.len
    simp [hc.stor, clkL]
    refine ref_Clock hc1 hsh ?_
    simp [hc.stor, clkL]
    refine card_Validate hc1 hsh fun H2 x2 => ?_
    have hc2 := hc1.mono x2
    have l2 := x2.len
    simp [hc.stor]
    refine ref_Validate hc2 hsh ?_
    simp [clkL, veqA_3]
    refine law_known (by omega) fun H3 _ => ?_
    simp
    exact hK _
  · simp
    refine law_known hlim fun H' _ => ?_
    simp
    exact hK _
theorem card_isEntry (hc : LstV enC H v c) (hK : K (.bool (inR c n)) H) : VCall tbl lim 50 [v, .int .i64 n] H K := by
  refine VCall_fn tbl_at50 rfl ?_
  have e : inR c n = (decide (0 ≤ n) && decide (n < c.length)) := by unfold inR; rw [Bool.decide_and]
  rw [e] at hK
  simp [vf50, hc.len]
  simpa using hK
theorem card_HasSeen (hc : LstV enC H v c) (hsh : shortC c) (hK : ∀ H', HX H H' → K (.tup [.bool (hasP c x y), .int .i64 (hasE c x y)]) H') : VCall tbl lim 22 [v, .int .i64 x, .int .i64 y] H K := by
  refine VCall_fn tbl_at22 rfl ?_
  simp [vf22, hc.stor]
  refine card_Validate hc hsh fun H1 x1 => ?_
  have hK := hK H1 x1
  have hc1 := hc.mono x1
  simp
  by_cases h : valE c = 0
  · simp [h, hc.stor]
    refine card_isEntry hc1 ?_
    cases h1 : inR c x
    · have e1 : hasP c x y = false := by simp [hasP, h, h1]
      have e2 : hasE c x y = 5 := by simp [hasE, h, h1]
      rw [e1, e2] at hK
      simp
      exact hK
    simp [hc.stor]
    refine card_isEntry hc1 ?_
    cases h2 : inR c y
    · have e1 : hasP c x y = false := by simp [hasP, h, h1, h2]
      have e2 : hasE c x y = 5 := by simp [hasE, h, h1, h2]
      rw [e1, e2] at hK
      simp
      exact hK
    have e1 : hasP c x y = seesB (c.getD x.toNat default) (c.getD y.toNat default) := by simp [hasP, h, h1, h2]
    have e2 : hasE c x y = 0 := by simp [hasE, h, h1, h2]
    rw [e1, e2] at hK
    simp only [inR, decide_eq_true_eq] at h1 h2
    have a1 := hc1.addr h1
    have a2 := hc1.addr h2
    simp (disch := omega) [a1, a2, en_load hc1]
    refine card_hasSeen (e := c.getD x.toNat default) (f := c.getD y.toNat default) (val_pl h (by omega)) ?_
    simp
    exact hK
  · have e1 : hasP c x y = false := by simp [hasP, h]
    have e2 : hasE c x y = valE c := by simp [hasE, h]
    rw [e1, e2] at hK
    simp [eq_false h]
    exact hK
end
end Go.Proofs.Ytlkoedoannjojaa.Vm
