/- More of lists in the machine's memory; loops with a measure; small arithmetic. -/
import Derived.Test.YtpdnbmnnkefedaaGreatDoorVmLib
namespace Go.Proofs.YtpdnbmnnkefedaaGreatDoor.Vm
open Go
set_option linter.unusedVariables false
set_option linter.unusedSimpArgs false
attribute [-simp] List.getD_eq_getElem?_getD

theorem getD_set {l : List Int} {i t : Nat} {x : Int} (h : i < l.length) : (l.set i x).getD t 0 = if t = i then x else l.getD t 0 := by
  simp only [List.getD_eq_getElem?_getD, List.getElem?_set]
  by_cases e : i = t
  · subst e; simp [h]
  · rw [if_neg e, if_neg (fun h => e h.symm)]
theorem getD_big {l : List Int} {i : Nat} (h : l.length ≤ i) : l.getD i 0 = 0 := by
  rw [List.getD_eq_getElem?_getD, List.getElem?_eq_none h]; rfl
theorem zs_getD (n t : Nat) : (zs n).getD t 0 = 0 := by
  simp only [zs, List.getD_eq_getElem?_getD, List.getElem?_replicate]
  split <;> rfl
theorem getD_map_range {N : Nat} {g : Nat → Int} {k : Nat} (h : k < N) : ((List.range N).map g).getD k 0 = g k := by
  simp [List.getD_eq_getElem?_getD, h]
theorem ext_getD {l m : List Int} (h : l.length = m.length) (hk : ∀ k, k < l.length → l.getD k 0 = m.getD k 0) : l = m := by
  apply List.ext_getElem h
  intro i h1 h2
  have := hk i h1
  simpa [List.getD_eq_getElem?_getD, h1, h2] using this
theorem vbounds_hi {n len : Nat} {k : IntKind} (h : n ≤ len) : vbounds len none (some (.int k n)) = some (0, n) := by
  simp [vbounds, vint]; omega
theorem vbounds_lo {n len : Nat} {k : IntKind} (h : n ≤ len) : vbounds len (some (.int k n)) none = some (n, len) := by
  simp [vbounds, vint]; omega
theorem vappend_nil {lim n : Nat} {H : Hp} {y : V} {l : List Int} (hy : SlV H y l) (hn : n ≤ H.length) (hl : l.length < 1000000) : ∃ v' H', vappend lim 1 8 H .snil y = some (v', H') ∧ OwnV n H' v' l ∧ HX H H' := by
  by_cases h0 : l.length = 0
  · have : l = [] := List.eq_nil_of_length_eq_zero h0
    subst this
    exact ⟨.snil, H, by simp [vappend, hy.cells, hy.len], .nil, .refl⟩
  · refine ⟨.sl H.length 0 l.length 1, H ++ [.row (ints l) true], ?_, .row hn List.getElem?_concat_length, .push⟩
    simp [vappend, hy.cells, hy.len, h0, show l.length * 8 ≤ 140737488355328 by omega, show l.length < 4611686018427387904 by omega]
theorem splice11 {a c : V} : splice [a] 0 [c] = [c] := by simp [splice]
theorem splice22 {a b c d : V} : splice [a, b] 0 [c, d] = [c, d] := by simp [splice]
theorem splice20 {a b c : V} : splice [a, b] 0 [c] = [c, b] := by simp [splice]
theorem splice21 {a b c : V} : splice [a, b] 1 [c] = [a, c] := by simp [splice]
def setH (H : Hp) (v : V) (cs : List V) : Hp := match v with
  | .sl b _ _ _ => H.set b (.row cs true)
  | _ => H
theorem OwnV.store {n : Nat} {H : Hp} {v : V} {l : List Int} (h : OwnV n H v l) {lim : Nat} {i : Nat} {x : Int} {L : Lo} (hi : lim ≤ n ∧ i < l.length) : vstore lim L H (ept 1 v i) (.int .i64 x) 1 = some (L, setH H v (ints (l.set i x))) := by
  cases h with
  | nil => simp at hi
  | row h1 h3 =>
    rename_i b
    have h2 : lim ≤ b := by omega
    have h4 : i + 1 ≤ l.length := by omega
    simp [vstore, ept, vstoreH, h2, h3, h4, splice_ints_one hi.2, setH]
/-- a list of one's own, of whatever content -/
def OwnL (n : Nat) (H : Hp) (v : V) (m : Nat) : Prop := ∃ l, l.length = m ∧ OwnV n H v l
theorem OwnV.any {n : Nat} {H : Hp} {v : V} {l : List Int} (h : OwnV n H v l) : OwnL n H v l.length := ⟨l, rfl, h⟩
theorem OwnL.set {n : Nat} {H : Hp} {v u : V} {l : List Int} {m : Nat} (hv : OwnV n H v l) (hu : OwnL n H u m) {l' : List Int} (hl : l'.length = l.length) : OwnL n (setH H v (ints l')) u m := by
  obtain ⟨k, rfl, hk⟩ := hu
  cases hv with
  | nil => exact ⟨k, rfl, hk⟩
  | row h1 h3 =>
    rename_i b
    cases hk with
    | nil => exact ⟨[], rfl, .nil⟩
    | row g1 g3 =>
      rename_i c
      by_cases e : c = b
      · subst e
        have hlt := (List.getElem?_eq_some_iff.1 h3).1
        have e2 : k.length = l.length := by
          rw [g3] at h3
          injection h3 with h3
          injection h3 with h3
          have := congrArg List.length h3
          simpa using this
        refine ⟨l', by omega, ?_⟩
        rw [e2, ← hl]
        exact .row g1 (by simp [setH, hlt])
      · exact ⟨k, rfl, .row g1 (by simp only [setH]; rw [List.getElem?_set_ne (by omega)]; exact g3)⟩
theorem setH_len {n : Nat} {H : Hp} {v : V} {l : List Int} (h : OwnV n H v l) {cs : List V} : (setH H v cs).length = H.length := by
  cases h <;> simp [setH]
theorem setH_old {n : Nat} {H : Hp} {v : V} {l : List Int} (h : OwnV n H v l) {cs : List V} {b : Nat} (hb : b < n) : (setH H v cs)[b]? = H[b]? := by
  cases h with
  | nil => rfl
  | row h1 h3 => simp only [setH]; rw [List.getElem?_set_ne (by omega)]
theorem OwnV.below {n : Nat} {H : Hp} {v : V} {l : List Int} (h : OwnV n H v l) : ∀ b o k z, v = .sl b o k z → b < H.length := by
  rintro b o k z rfl
  cases h with
  | row h1 h3 => exact (List.getElem?_eq_some_iff.1 h3).1
theorem setH_oth {n m : Nat} {H : Hp} {v : V} {l : List Int} (h : OwnV n H v l) (hm : ∀ b o k z, v = .sl b o k z → b < m) {cs : List V} {b : Nat} (hb : b < n ∨ m ≤ b) : (setH H v cs)[b]? = H[b]? := by
  cases h with
  | nil => rfl
  | row h1 h3 =>
    have := hm _ _ _ _ rfl
    simp only [setH]; rw [List.getElem?_set_ne (by omega)]
theorem OwnV.keep {n : Nat} {H H' : Hp} {v : V} {l : List Int} (h : OwnV n H v l) (hk : ∀ b, n ≤ b → H'[b]? = H[b]?) : OwnV n H' v l := by
  cases h with
  | nil => exact .nil
  | row h1 h3 => exact .row h1 (by rw [hk _ h1]; exact h3)
theorem HX.part {H1 H H' : Hp} (h2 : HX H1 H) (hl : H'.length = H.length) (hs : ∀ b, b < H1.length → H'[b]? = H[b]?) : HX H1 H' :=
  HX.of (by rw [hl]; exact h2.len) fun b hb => by rw [hs b hb, h2.same hb]
theorem wLoop_m {T : Tbl} {lim : Nat} {body : VCode} {Q : VExit → St → Prop} {n : Nat} (J : Nat → Fr → Lo → Hp → Prop) {s : St} (start : J n s.fr s.L s.H)
    (round : ∀ n fr L H, J n fr L H → wCode T lim body (seqQ (fun s' => ∃ m, m < n ∧ J m s'.fr s'.L s'.H) Q) ⟨fr, L, H⟩) : wCode T lim (.loop body) Q s :=
  wLoop_inv (fun n s => J n s.fr s.L s.H) (fun n s h => round n s.fr s.L s.H h) start
theorem tdiv_nat (a b : Nat) : (a : Int).tdiv b = ((a / b : Nat) : Int) := rfl
theorem tmod_nat (a b : Nat) : (a : Int).tmod b = ((a % b : Nat) : Int) := rfl
theorem mul_bd {a b A B : Int} (h1 : 0 ≤ a ∧ a ≤ A) (h2 : 0 ≤ b ∧ b ≤ B) : 0 ≤ a * b ∧ a * b ≤ A * B :=
  ⟨Int.mul_nonneg h1.1 h2.1, Int.mul_le_mul h1.2 h2.2 h2.1 (by omega)⟩
theorem veqA_2 {a b c d : Int} {neg : Bool} : veqA neg [.int .i64, .int .i64] (.agg [.int .i64 a, .int .i64 b]) (.agg [.int .i64 c, .int .i64 d]) = some (.bool (if neg then !(decide (a = c) && decide (b = d)) else decide (a = c) && decide (b = d))) := by
  simp [veqA, eqCells, eqCell]
  cases neg <;> rfl
attribute [simp] splice11 splice22 splice20 splice21
theorem OwnV.put {n : Nat} {H : Hp} {v : V} {l l' : List Int} (h : OwnV n H v l) (hl : l'.length = l.length) : OwnV n (setH H v (ints l')) v l' := by
  cases h with
  | nil => have : l' = [] := List.eq_nil_of_length_eq_zero (by simpa using hl)
           subst this; exact .nil
  | row h1 h3 =>
    rename_i b
    have hlt := (List.getElem?_eq_some_iff.1 h3).1
    rw [← hl]
    exact .row h1 (by simp [setH, hlt])
theorem setH_X {n : Nat} {H0 H : Hp} {v : V} {l : List Int} (hx : HX H0 H) (h : OwnV n H v l) (hn : H0.length ≤ n) {cs : List V} : HX H0 (setH H v cs) :=
  HX.of (by rw [setH_len h]; exact hx.len) fun b hb => by rw [setH_old h (by omega), hx.same hb]
theorem OwnV.new {n : Nat} {H : Hp} {l : List Int} (hn : n ≤ H.length) : OwnV n (H ++ [.row (ints l) true]) (.sl H.length 0 l.length 1) l := .row hn List.getElem?_concat_length
theorem map_range_set {N : Nat} {g : Nat → Int} {k : Nat} {x : Int} (h : k < N) : ((List.range N).map g).set k x = (List.range N).map fun c => if c = k then x else g c := by
  refine ext_getD (by simp) fun i hi => ?_
  have hi : i < N := by simpa using hi
  rw [getD_set (by simpa using h), getD_map_range hi, getD_map_range hi]
@[simp] theorem map_range_length {N : Nat} {g : Nat → Int} : ((List.range N).map g).length = N := by simp
theorem SlV.lit {H : Hp} {b : Nat} {own : Bool} {l : List Int} (h : H[b]? = some (.row (ints l) own)) {k : Nat} (hk : k = l.length) : SlV H (.sl b 0 k 1) l := by
  subst hk
  exact .sl h (by simp) (by rw [List.drop_zero, List.take_of_length_le (by simp)])
end Go.Proofs.YtpdnbmnnkefedaaGreatDoor.Vm
