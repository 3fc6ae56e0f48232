/- Laws of hair over the machine: cutting. -/
import Derived.Test.YtgmbjfdhbfhmgaaHaN
namespace Go.Proofs.Ytgmbjfdhbfhmgaa.Vm
open Go
set_option maxRecDepth 100000
set_option linter.unusedSimpArgs false
set_option linter.unusedVariables false
attribute [-simp] List.getD_eq_getElem?_getD

/-- what is still wanted of m hairs of the length L, behind j lengths -/
def remF (f : HF) (L : Nat) (m : Int) (j : Nat) : Int := max 0 (m - (abv f (25 - L) - abv f (25 - L - j)))
/-- what is taken -/
def tkF (f : HF) (L : Nat) (m : Int) : HF := fun w n => if n < L then 0 else if w = 0 then min (remF f L m (n - L)) (f 0 n) else min (remF f L m (n - L) - min (remF f L m (n - L)) (f 0 n)) (f w n)
def cutF (f : HF) (L : Nat) (m : Int) : HF := fun w n => f w n - tkF f L m w n
def lostF (f : HF) (L : Nat) (m : Int) : Nat → Int
  | 0 => 0
  | j + 1 => lostF f L m j + (j : Int) * (tkF f L m 0 (L + j) + tkF f L m 1 (L + j))
theorem rem_step {f : HF} {L j : Nat} {m : Int} (hf : ∀ w n, 0 ≤ f w n) (h : L + j ≤ 24) : remF f L m (j + 1) = remF f L m j - (tkF f L m 0 (L + j) + tkF f L m 1 (L + j)) := by
  have e0 := hf 0 (L + j)
  have e1 := hf 1 (L + j)
  obtain ⟨k, hk⟩ : ∃ k, k = 24 - L - j := ⟨_, rfl⟩
  have a1 : 25 - L - j = k + 1 := by omega
  have a2 : 25 - L - (j + 1) = k := by omega
  have a3 : 24 - k = L + j := by omega
  have ea : abv f (k + 1) = abv f k + (f 0 (24 - k) + f 1 (24 - k)) := rfl
  rw [a3] at ea
  have hj : L + j - L = j := by omega
  simp only [tkF, remF, a1, a2, ea, hj, show ¬ L + j < L by omega, if_false, if_true, show ¬ (1 : Nat) = 0 by omega]
  omega
theorem rem_zero {f : HF} {L : Nat} {m : Int} (hm : 0 ≤ m) : remF f L m 0 = m := by simp [remF]; omega
theorem rem_nn {f : HF} {L j : Nat} {m : Int} : 0 ≤ remF f L m j := by simp only [remF]; omega
theorem tk_bd {f : HF} {L : Nat} {m : Int} (hf : ∀ w n, 0 ≤ f w n) (w n : Nat) : 0 ≤ tkF f L m w n ∧ tkF f L m w n ≤ f w n := by
  have e0 := hf 0 n
  have e1 := hf w n
  have := rem_nn (f := f) (L := L) (j := n - L) (m := m)
  simp only [tkF]
  split
  · omega
  · split
    · rename_i h; subst h; omega
    · omega
theorem cutF_bd {f : HF} {L : Nat} {m : Int} {B : Int} (hf : ∀ w n, 0 ≤ f w n ∧ f w n ≤ B) (w n : Nat) : 0 ≤ cutF f L m w n ∧ cutF f L m w n ≤ B := by
  have := tk_bd (L := L) (m := m) (fun w n => (hf w n).1) w n
  have := hf w n
  simp only [cutF]; omega
theorem lost_bd {f : HF} {L : Nat} {m : Int} (hf : ∀ w n, 0 ≤ f w n ∧ f w n ≤ 1000000) : ∀ j : Nat, j ≤ 25 → 0 ≤ lostF f L m j ∧ lostF f L m j ≤ j * 48000000
  | 0, _ => by simp [lostF]
  | j + 1, h => by
    have a := lost_bd (L := L) (m := m) hf j (by omega)
    have b0 := tk_bd (L := L) (m := m) (fun w n => (hf w n).1) 0 (L + j)
    have b1 := tk_bd (L := L) (m := m) (fun w n => (hf w n).1) 1 (L + j)
    have c0 := (hf 0 (L + j)).2
    have c1 := (hf 1 (L + j)).2
    have p := mul_bd (a := (j : Int)) (b := tkF f L m 0 (L + j) + tkF f L m 1 (L + j)) (A := 24) (B := 2000000) (by omega) (by omega)
    simp only [lostF]
    generalize (j : Int) * (tkF f L m 0 (L + j) + tkF f L m 1 (L + j)) = x at *
    omega
/-- the state amid -/
def midF (f : HF) (L : Nat) (m : Int) (j i : Nat) : HF := fun w n => if n < L + j ∨ (n = L + j ∧ w < i) then cutF f L m w n else f w n
theorem midF_bd {f : HF} {L : Nat} {m : Int} {B : Int} {j i : Nat} (hf : ∀ w n, 0 ≤ f w n ∧ f w n ≤ B) (w n : Nat) : 0 ≤ midF f L m j i w n ∧ midF f L m j i w n ≤ B := by
  have := hf w n
  have := cutF_bd (L := L) (m := m) hf w n
  simp only [midF]; split <;> omega
theorem midF_0 {f : HF} {L : Nat} {m : Int} : mk48 (midF f L m 0 0) = mk48 f ∧ mk50 (midF f L m 0 0) = mk50 f := by
  have : ∀ w n, midF f L m 0 0 w n = f w n := by
    intro w n
    simp only [midF]
    split
    · simp only [cutF, tkF]; rw [if_pos (by omega)]; omega
    · rfl
  exact ⟨mk48_congr fun w n _ _ _ => this w n, mk50_congr fun w n _ _ _ => this w n⟩
theorem midF_end {f : HF} {L j : Nat} {m : Int} (h : 25 ≤ L + j) : mk48 (midF f L m j 0) = mk48 (cutF f L m) ∧ mk50 (midF f L m j 0) = mk50 (cutF f L m) :=
  ⟨mk48_congr fun w n _ _ _ => by simp only [midF]; rw [if_pos (by omega)], mk50_congr fun w n _ _ _ => by simp only [midF]; rw [if_pos (by omega)]⟩

section
variable {lim : Nat} {H : Hp} {K : V → Hp → Prop} {r w r' w' : List Int} {av bv : V}

theorem sheaf_cut {f : HF} {i : Nat} (hi : i < 24) {m : Int} (hm : 0 ≤ m ∧ m ≤ 100000000) (hf : ∀ w n, 0 ≤ f w n ∧ f w n ≤ 1000000)
    (hK : K (.tup [.agg (ints (mk48 (cutF f (i + 1) m))), .int .i64 (lostF f (i + 1) m (24 - i)), .int .i64 (remF f (i + 1) m (24 - i))]) H) :
    VCall tbl lim 89 [.agg (ints (mk48 f)), .int .i64 i, .int .i64 m] H K := by
  refine VCall_fn tbl_at89 rfl ?_
  simp [vf89]
  refine wLoop_up (24 - i) (fun j fr L H' => (fr 1 = .int .i64 i ∧ fr 2 = .int .i64 (remF f (i + 1) m j) ∧ fr 3 = .lp 0 0 ∧ fr 6 = .lp 1 0 ∧ fr 7 = .int .i64 (lostF f (i + 1) m j) ∧ fr 9 = .int .i64 ((i + j : Nat) : Int)) ∧ L = [ints (mk48 (midF f (i + 1) m j 0)), ints (zs 48)] ∧ H' = H) ⟨by simp [rem_zero hm.1, lostF], by simp [midF_0.1], rfl⟩ ?_
  rintro j hj fr L H' ⟨⟨f1, f2, f3, f6, f7, f9⟩, rfl, rfl⟩
  have rs := fun h => rem_step (f := f) (L := i + 1) (j := j) (m := m) (fun w n => (hf w n).1) h
  obtain ⟨k, hk⟩ : ∃ k, k = i + j := ⟨_, rfl⟩
  rw [← hk] at f9
  have rn := rem_nn (f := f) (L := i + 1) (j := j) (m := m)
  have rle : remF f (i + 1) m j ≤ m := by
    have := abv_nonneg (f := f) (fun w n => ⟨(hf w n).1, by have := (hf w n).2; omega⟩)
    have mono : ∀ a b, abv f a ≤ abv f (a + b) := by
      intro a b
      induction b with
      | zero => simp
      | succ b ih => have := (hf 0 (24 - (a + b))).1; have := (hf 1 (24 - (a + b))).1; rw [← Nat.add_assoc]; simp only [abv]; omega
    have := mono (25 - (i + 1) - j) (25 - (i + 1) - (25 - (i + 1) - j))
    have e : 25 - (i + 1) - j + (25 - (i + 1) - (25 - (i + 1) - j)) = 25 - (i + 1) := by omega
    rw [e] at this
    simp only [remF]; omega
  simp [f1, f2, f3, f6, f7, f9]
  refine cond_dec (fun ht => ?_) fun hfl => ?_
  · have b0 := hf 0 (k + 1)
    have b1 := hf 1 (k + 1)
    have m0 : midF f (i + 1) m j 0 0 (k + 1) = f 0 (k + 1) := by simp only [midF]; rw [if_neg (by omega)]
    have m1 : midF f (i + 1) m j 0 1 (k + 1) = f 1 (k + 1) := by simp only [midF]; rw [if_neg (by omega)]
    have rs := rs (by omega)
    have eL : i + 1 + j = k + 1 := by omega
    have et0 : tkF f (i + 1) m 0 (k + 1) = min (remF f (i + 1) m j) (f 0 (k + 1)) := by
      simp only [tkF, show k + 1 - (i + 1) = j by omega, show ¬ k + 1 < i + 1 by omega, if_false, if_true]
    have et1 : tkF f (i + 1) m 1 (k + 1) = min (remF f (i + 1) m j - min (remF f (i + 1) m j) (f 0 (k + 1))) (f 1 (k + 1)) := by
      simp only [tkF, show k + 1 - (i + 1) = j by omega, show ¬ k + 1 < i + 1 by omega, if_false, show ¬ (1 : Nat) = 0 by omega]
    have el : lostF f (i + 1) m (j + 1) = lostF f (i + 1) m j + (j : Int) * (tkF f (i + 1) m 0 (k + 1) + tkF f (i + 1) m 1 (k + 1)) := by simp only [lostF, eL]
    have lb := lost_bd (L := i + 1) (m := m) hf j (by omega)
    have lb2 := lost_bd (L := i + 1) (m := m) hf (j + 1) (by omega)
    have hmid : mk48 (fset (fset (midF f (i + 1) m j 0) 0 (k + 1) (f 0 (k + 1) - min (remF f (i + 1) m j) (f 0 (k + 1)))) 1 (k + 1) (f 1 (k + 1) - min (remF f (i + 1) m j - min (remF f (i + 1) m j) (f 0 (k + 1))) (f 1 (k + 1)))) = mk48 (midF f (i + 1) m (j + 1) 0) := by
      refine mk48_congr fun w n hw h1 h2 => ?_
      have c0 : cutF f (i + 1) m 0 (k + 1) = f 0 (k + 1) - min (remF f (i + 1) m j) (f 0 (k + 1)) := by simp only [cutF, et0]
      have c1 : cutF f (i + 1) m 1 (k + 1) = f 1 (k + 1) - min (remF f (i + 1) m j - min (remF f (i + 1) m j) (f 0 (k + 1))) (f 1 (k + 1)) := by simp only [cutF, et1]
      rw [← c0, ← c1]
      simp only [fset, midF]
      by_cases hn : n = k + 1
      · subst hn
        rcases (show w = 0 ∨ w = 1 by omega) with rfl | rfl
        · simp; intro h; omega
        · simp; intro h; omega
      · rw [if_neg (by omega), if_neg (by omega)]
        have : (n < i + 1 + j ∨ n = i + 1 + j ∧ w < 0) ↔ (n < i + 1 + (j + 1) ∨ n = i + 1 + (j + 1) ∧ w < 0) := by omega
        simp only [this]
    have ekj : (k : Int) - i = j := by omega
    rw [eL, et0, et1] at rs
    rw [et0, et1] at el
    have md := midF_bd (L := i + 1) (m := m) (j := j) (i := 0) hf
    simp [f1, f2, f3, f6, f7, f9]
    refine sheaf_pick (by omega) (by omega) (fun w n => ⟨(md w n).1, by have := (md w n).2; omega⟩) ?_
    rw [m0, m1]
    generalize remF f (i + 1) m j = R at *
    generalize hT : min R (f 0 (k + 1)) + min (R - min R (f 0 (k + 1))) (f 1 (k + 1)) = T at *
    have pm := mul_bd (a := (j : Int)) (b := T) (A := 24) (B := 2000000) (by omega) (by omega)
    have s1 : fset (midF f (i + 1) m j 0) 0 (k + 1) (f 0 (k + 1) - min R (f 0 (k + 1))) 1 (k + 1) = f 1 (k + 1) := by simp [fset, m1]
    simp (disch := omega) [f1, f2, f3, f6, f7, f9, leT, rd48_0, rd48_1, sp48_0, sp48_1, wrap_i64, m0, m1, ekj, hT, s1]
    refine ⟨by omega, ⟨by omega, by omega, by omega⟩, ?_⟩
    exact congrArg ints hmid
  · have hj2 : j = 24 - i := by omega
    subst hj2
    have e := (midF_end (f := f) (L := i + 1) (j := 24 - i) (m := m) (by omega)).1
    rw [e]
    simp [f1, f2, f3, f6, f7, f9]
    exact hK
end
end Go.Proofs.Ytgmbjfdhbfhmgaa.Vm
