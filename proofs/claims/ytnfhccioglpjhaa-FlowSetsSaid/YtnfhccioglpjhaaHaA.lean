/- Package hair over the machine: opening a bundle, counting. -/
import Derived.Test.YtnfhccioglpjhaaVmTab
import Derived.Test.YtnfhccioglpjhaaVmRec
namespace Go.Proofs.Ytnfhccioglpjhaa.Vm
open Go
set_option maxRecDepth 100000
set_option linter.unusedSimpArgs false
attribute [-simp] List.getD_eq_getElem?_getD

/-- the sum of the two ways of lying over the last k lengths -/
def restN (xs : List Int) : Nat → Int
  | 0 => 0
  | k + 1 => (xs.getD (23 - k) 0 + xs.getD (47 - k) 0) + restN xs k

def Small (xs : List Int) : Prop := ∀ x ∈ xs, -1099511627776 ≤ x ∧ x ≤ 1099511627776
theorem Small.at {xs : List Int} (h : Small xs) (i : Nat) : -1099511627776 ≤ xs.getD i 0 ∧ xs.getD i 0 ≤ 1099511627776 := by
  by_cases hi : i < xs.length
  · rw [List.getD_eq_getElem?_getD, List.getElem?_eq_getElem hi]; exact h _ (List.getElem_mem hi)
  · rw [List.getD_eq_getElem?_getD, List.getElem?_eq_none (by omega)]; simp

def aboveS (xs : List Int) (n : Int) : Int := restN xs (24 - (max n 1 - 1).toNat)

theorem SlV.at {H : Hp} {v : V} {l : List Int} (h : SlV H v l) {i : Nat} (hi : i < l.length) : ∃ b o, viaddrS 1 v (.int .i64 i) = some (.ptr b o) ∧ ∀ L, vload none L H (.ptr b o) = some (.int .i64 (l.getD i 0)) := by
  cases h with
  | nil => simp at hi
  | empty => simp at hi
  | sl h1 h2 h3 =>
    rename_i b off cs own
    refine ⟨b, off + i, ?_, fun L => ?_⟩
    · rw [viaddrS_in (by omega)]; simp
    · rw [vload_ptr h1]
      have hlt : off + i < cs.length := by omega
      simp only [rd, hlt, if_true]
      have e : (cs.drop off)[i]? = (ints l)[i]? := by
        rw [← h3, List.getElem?_take_of_lt hi]
      rw [List.getElem?_drop, ints_get?, List.getElem?_eq_getElem hi] at e
      simp [List.getD_eq_getElem?_getD, e, hi]

def anyNeg (l : List Int) : Bool := l.any (· < 0)
def anyBig (l : List Int) : Bool := l.any (1000000 < ·)
def errOf (r w : List Int) : Int :=
  if 24 < r.length ∨ 24 < w.length then 4 else if anyNeg r ∨ anyNeg w then 1 else if anyBig r ∨ anyBig w then 4 else 0

theorem any_snoc {p : Int → Bool} {l : List Int} {i : Nat} (h : i < l.length) : (l.take (i + 1)).any p = ((l.take i).any p || p (l.getD i 0)) := by
  rw [take_snoc h, List.any_append]; simp
theorem any_at {p : Int → Bool} {l : List Int} {i : Nat} (h : i < l.length) (hp : p (l.getD i 0) = true) : l.any p = true := by
  rw [List.any_eq_true]
  exact ⟨l[i], List.getElem_mem h, by rw [List.getD_eq_getElem?_getD, List.getElem?_eq_getElem h] at hp; exact hp⟩

inductive BunV (H : Hp) (r w : List Int) : V → Prop
  | mk {rv wv : V} : SlV H rv r → SlV H wv w → BunV H r w (.agg [rv, wv])

theorem errOf_app {r w : List Int} : errOf r w = if 24 < r.length ∨ 24 < w.length then 4 else if anyNeg (r ++ w) then 1 else if anyBig (r ++ w) then 4 else 0 := by
  unfold errOf anyNeg anyBig
  simp only [List.any_append, Bool.or_eq_true]

theorem anyNeg_app {a b : List Int} : anyNeg (a ++ b) = (anyNeg a || anyNeg b) := List.any_append
theorem anyBig_app {a b : List Int} : anyBig (a ++ b) = (anyBig a || anyBig b) := List.any_append

theorem BunV.mono {H H' : Hp} (hx : HX H H') {v : V} {r w : List Int} (h : BunV H r w v) : BunV H' r w v := by
  cases h with
  | mk h1 h2 => exact .mk (h1.mono hx) (h2.mono hx)

def pad (l : List Int) : List Int := l ++ List.replicate (24 - l.length) 0
def sheafOf (r w : List Int) : List Int := pad r ++ pad w
theorem pad_length {l : List Int} (h : l.length ≤ 24) : (pad l).length = 24 := by simp [pad]; omega
theorem sheafOf_length {r w : List Int} (h1 : r.length ≤ 24) (h2 : w.length ≤ 24) : (sheafOf r w).length = 48 := by simp [sheafOf, pad_length h1, pad_length h2]
theorem errOf_zero {r w : List Int} (h : errOf r w = 0) : r.length ≤ 24 ∧ w.length ≤ 24 ∧ anyNeg r = false ∧ anyNeg w = false ∧ anyBig r = false ∧ anyBig w = false := by
  unfold errOf at h
  split at h
  · cases h
  split at h
  · cases h
  split at h
  · cases h
  · rename_i h1 h2 h3
    simp at h2 h3
    refine ⟨by omega, by omega, h2.1, h2.2, h3.1, h3.2⟩


/-- the sheaf that 'open' returns -/
def opened (r w : List Int) : List Int := if errOf r w = 0 then sheafOf r w else zs 48
theorem opened_length {r w : List Int} : (opened r w).length = 48 := by
  unfold opened
  split
  · rename_i h; exact sheafOf_length (errOf_zero h).1 (errOf_zero h).2.1
  · simp

def inRest (xs : List Int) : Nat → Int
  | 0 => 0
  | k + 1 => (24 - k) * (xs.getD (23 - k) 0 + xs.getD (47 - k) 0) + inRest xs k
def inchesS (xs : List Int) : Int := inRest xs 24

theorem mul_bound {j : Nat} {t : Int} (hj : j < 24) (h1 : -2199023255552 ≤ t) (h2 : t ≤ 2199023255552) : -52776558133248 ≤ ((j : Int) + 1) * t ∧ ((j : Int) + 1) * t ≤ 52776558133248 := by
  have hj' : j = 0 ∨ j = 1 ∨ j = 2 ∨ j = 3 ∨ j = 4 ∨ j = 5 ∨ j = 6 ∨ j = 7 ∨ j = 8 ∨ j = 9 ∨ j = 10 ∨ j = 11 ∨ j = 12 ∨ j = 13 ∨ j = 14 ∨ j = 15 ∨ j = 16 ∨ j = 17 ∨ j = 18 ∨ j = 19 ∨ j = 20 ∨ j = 21 ∨ j = 22 ∨ j = 23 := by omega
  rcases hj' with h | h | h | h | h | h | h | h | h | h | h | h | h | h | h | h | h | h | h | h | h | h | h | h <;> subst h <;> constructor <;> simp <;> omega

theorem anyNeg_false {l : List Int} (h : anyNeg l = false) : ∀ x ∈ l, 0 ≤ x := by
  intro x hx
  have := List.any_eq_false.1 h x hx
  simpa using this
theorem anyBig_false {l : List Int} (h : anyBig l = false) : ∀ x ∈ l, x ≤ 1000000 := by
  intro x hx
  have := List.any_eq_false.1 h x hx
  simpa using this

/-- every number of a sheaf that was opened is from 0 to 1000000 -/
theorem opened_mem {r w : List Int} : ∀ x ∈ opened r w, 0 ≤ x ∧ x ≤ 1000000 := by
  intro x hx
  unfold opened at hx
  split at hx
  · rename_i h
    obtain ⟨_, _, h3, h4, h5, h6⟩ := errOf_zero h
    simp only [sheafOf, pad, List.mem_append] at hx
    rcases hx with (hx | hx) | hx | hx
    · exact ⟨anyNeg_false h3 x hx, anyBig_false h5 x hx⟩
    · have := List.eq_of_mem_replicate hx; omega
    · exact ⟨anyNeg_false h4 x hx, anyBig_false h6 x hx⟩
    · have := List.eq_of_mem_replicate hx; omega
  · have := List.eq_of_mem_replicate hx; omega
theorem opened_small {r w : List Int} : Small (opened r w) := fun x hx => by
  have := opened_mem x hx; omega

section
variable {lim : Nat} {H : Hp} {bv : V} {r w : List Int} {K : V → Hp → Prop}
theorem BunV.stor (h : BunV H r w bv) : stor bv = true ∧ (cellsV bv).length = 2 := by
  cases h with
  | mk h1 h2 => exact ⟨rfl, rfl⟩
theorem BunV.load (h : BunV H r w bv) : rd (some 2) (cellsV bv) 0 = some bv := by
  cases h with
  | mk h1 h2 => exact rd_two

end

end Go.Proofs.Ytnfhccioglpjhaa.Vm
