/- Package dye over the machine: the search for a gift. -/
import Derived.Test.YtlljkhhdhedajaaDyG
import Derived.Test.YtlljkhhdhedajaaDyP
namespace Go.Proofs.Ytlljkhhdhedajaa.Vm
open Go
set_option maxRecDepth 100000
set_option maxHeartbeats 1000000
set_option linter.unusedSimpArgs false
set_option linter.unusedVariables false
attribute [-simp] List.getD_eq_getElem?_getD
def nearL (a : Lot) (b : Wnt) : Bool := nearB a.l a.t a.b b.l b.t b.b b.n
def netOf (A : List Lot) (B : List Wnt) : Net := ⟨A.length, B.length, fun l => (A.getD l default).w, fun w => (B.getD w default).w, fun l w => nearL (A.getD l default) (B.getD w default)⟩
def flOf (l : List Lot) (g : List Int) : Fl := ⟨fun k => (l.getD k default).w, fun w k => if w < 6 ∧ k < 6 then g.getD (w * 6 + k) 0 else 0⟩
def trF (tr : List Bool) (k : Nat) : Bool := tr.getD k false
def bools (tr : List Bool) : List V := tr.map V.bool
def getW (N : Nat) : V := .func (.func 88) [] [.ptr (N + 2) 0, .ptr (N + 4) 0, .ptr N 0, .ptr (N + 3) 0, .ptr (N + 5) 0]
theorem tgW {n : Nat} {a b : V} : vtarget (getW n) [a, b] = some (88, [a, b, .ptr (n + 2) 0, .ptr (n + 4) 0, .ptr n 0, .ptr (n + 3) 0, .ptr (n + 5) 0]) := Eq.trans rfl rfl
/-- the heap amid the sharing -/
structure ShS (N : Nat) (H0 : Hp) (bv lv : V) (A : List Lot) (l : List Lot) (g : List Int) (tr : List Bool) (H : Hp) : Prop where
  len : H0.length = N ∧ H.length = N + 6
  base : ∀ b, b < N → H[b]? = H0[b]?
  lvE : lv = .sl (N + 1) 0 A.length 4
  rW : H[N]? = some (.row [bv] true)
  own : OwnT N lotC H lv l
  rB : H[N + 2]? = some (.row [lv] true)
  rG : H[N + 3]? = some (.row (ints g) true)
  rT : H[N + 4]? = some (.row (bools tr) true)
  rF : H[N + 5]? = some (.row [getW N] true)
  gl : g.length = 36
  tl : tr.length = 6
  ll : l.length = A.length
  shd : ∀ i, i < A.length → (l.getD i default).l = (A.getD i default).l ∧ (l.getD i default).t = (A.getD i default).t ∧ (l.getD i default).b = (A.getD i default).b
section
variable {lim N : Nat} {H H0 : Hp} {K : V → Hp → Prop} {av bv lv gv : V} {A l l' : List Lot} {B : List Wnt} {g g' : List Int} {tr : List Bool}
theorem lo_get (h : LstV lotC H av A) {i j : Nat} (hi : i < A.length) (hj : j < 4) {L : Lo} : vload none L H (eptf 4 av i j) = rd none [.int .i64 (A.getD i default).w, .int .i64 (A.getD i default).l, .int .i64 (A.getD i default).t, .int .i64 (A.getD i default).b] j := h.rd1 hi hj
theorem lo_load (h : LstV lotC H av A) {i : Nat} (hi : i < A.length) {L : Lo} : vload (some 4) L H (ept 4 av i) = some (.agg [.int .i64 (A.getD i default).w, .int .i64 (A.getD i default).l, .int .i64 (A.getD i default).t, .int .i64 (A.getD i default).b]) := h.load hi
theorem wa_load (h : LstV wntC H bv B) {i : Nat} (hi : i < B.length) {L : Lo} : vload (some 5) L H (ept 5 bv i) = some (.agg [.int .i64 (B.getD i default).w, .int .i64 (B.getD i default).l, .int .i64 (B.getD i default).t, .int .i64 (B.getD i default).b, .int .i64 (B.getD i default).n]) := h.load hi
theorem wa_get (h : LstV wntC H bv B) {i j : Nat} (hi : i < B.length) (hj : j < 5) {L : Lo} : vload none L H (eptf 5 bv i j) = rd none [.int .i64 (B.getD i default).w, .int .i64 (B.getD i default).l, .int .i64 (B.getD i default).t, .int .i64 (B.getD i default).b, .int .i64 (B.getD i default).n] j := h.rd1 hi hj
theorem LstV.keepB {α : Type} {k : Nat} {c : Cod α k} {H H' : Hp} {v : V} {l : List α} (h : LstV c H v l) (hk : ∀ b o n z, v = .sl b o n z → H'[b]? = H[b]?) : LstV c H' v l := by
  cases h with
  | nil => exact .nil
  | empty => exact .empty
  | sl h1 h2 h3 => exact .sl (by rw [hk _ _ _ _ rfl]; exact h1) h2 h3
theorem LstV.below {α : Type} {k : Nat} {c : Cod α k} {H : Hp} {v : V} {l : List α} (h : LstV c H v l) : ∀ b o n z, v = .sl b o n z → b < H.length := by
  rintro b o n z rfl
  cases h with
  | sl h1 _ _ => exact (List.getElem?_eq_some_iff.1 h1).1
theorem OwnT.keepB {α : Type} {k : Nat} {c : Cod α k} {n : Nat} {H H' : Hp} {v : V} {l : List α} (h : OwnT n c H v l) (hk : ∀ b o m z, v = .sl b o m z → H'[b]? = H[b]?) : OwnT n c H' v l := by
  cases h with
  | nil => exact .nil
  | row h1 h3 => exact .row h1 (by rw [hk _ _ _ _ rfl]; exact h3)
theorem ShS.wants (h : ShS N H0 bv lv A l g tr H) (hb : LstV wntC H0 bv B) : LstV wntC H bv B := hb.keepB fun b o n z e => h.base b (by have := hb.below b o n z e; have := h.len; omega)
theorem bools_ld (h : H[N]? = some (.row (bools tr) true)) {k : Nat} (hk : k < tr.length) {L : Lo} : vload none L H (.ptr N k) = some (.bool (trF tr k)) := by
  rw [vload_ptr h]
  have e : (bools tr)[k]? = some (.bool (trF tr k)) := by
    simp only [bools, trF, List.getD_eq_getElem?_getD]
    rw [List.getElem?_map, List.getElem?_eq_getElem hk]; rfl
  simp only [rd]
  rw [if_pos (by simpa [bools] using hk), List.getD_eq_getElem?_getD, e]; rfl
theorem bools_st (h : H[N]? = some (.row (bools tr) true)) (hl : lim ≤ N) {k : Nat} (hk : k < tr.length) {L : Lo} {x : Bool} : vstore lim L H (.ptr N k) (.bool x) 1 = some (L, H.set N (.row (bools (tr.set k x)) true)) := by
  have h1 : k + 1 ≤ (bools tr).length := by simp [bools]; omega
  have e : splice (bools tr) k [.bool x] = bools (tr.set k x) := by
    simp only [splice, bools, List.length_singleton]
    rw [List.set_eq_take_append_cons_drop, if_pos hk]
    simp [List.map_take, List.map_drop]
  simp [vstore, vstoreH, h, hl, h1, e]
theorem row_store {b i : Nat} {x : Int} {l : List Int} {L : Lo} (hb : H[b]? = some (.row (ints l) true)) (hl : lim ≤ b) (hi : i < l.length) : vstore lim L H (.ptr b i) (.int .i64 x) 1 = some (L, H.set b (.row (ints (l.set i x)) true)) := by
  have : i + 1 ≤ l.length := hi
  simp [vstore, vstoreH, hb, hl, this, splice_ints_one hi]
theorem row_load {b i : Nat} {l : List Int} {own : Bool} {L : Lo} (hb : H[b]? = some (.row (ints l) own)) (hi : i < l.length) : vload none L H (.ptr b i) = some (.int .i64 (l.getD i 0)) := by
  rw [vload_ptr hb, rd_ints hi]
theorem ShS.setT (h : ShS N H0 bv lv A l g tr H) (k : Nat) (x : Bool) : ShS N H0 bv lv A l g (tr.set k x) (H.set (N + 4) (.row (bools (tr.set k x)) true)) := by
  obtain ⟨⟨n1, n2⟩, h2, h3, h4, h5, h6, h7, h8, h9, h10, h11, h12, h13⟩ := h
  exact ⟨⟨n1, by simpa using n2⟩, fun b hb => by rw [List.getElem?_set_ne (by omega)]; exact h2 b hb, h3, by rw [List.getElem?_set_ne (by omega)]; exact h4, h5.keepB fun b o m z e => by
    rw [h3] at e; cases e; rw [List.getElem?_set_ne (by omega)], by rw [List.getElem?_set_ne (by omega)]; exact h6, by rw [List.getElem?_set_ne (by omega)]; exact h7, by rw [List.getElem?_set_self (by omega)], by rw [List.getElem?_set_ne (by omega)]; exact h9, h10, by simpa using h11, h12, h13⟩
theorem ShS.setG (h : ShS N H0 bv lv A l g tr H) (k : Nat) (x : Int) : ShS N H0 bv lv A l (g.set k x) tr (H.set (N + 3) (.row (ints (g.set k x)) true)) := by
  obtain ⟨⟨n1, n2⟩, h2, h3, h4, h5, h6, h7, h8, h9, h10, h11, h12, h13⟩ := h
  exact ⟨⟨n1, by simpa using n2⟩, fun b hb => by rw [List.getElem?_set_ne (by omega)]; exact h2 b hb, h3, by rw [List.getElem?_set_ne (by omega)]; exact h4, h5.keepB fun b o m z e => by
    rw [h3] at e; cases e; rw [List.getElem?_set_ne (by omega)], by rw [List.getElem?_set_ne (by omega)]; exact h6, by rw [List.getElem?_set_self (by omega)], by rw [List.getElem?_set_ne (by omega)]; exact h8, by rw [List.getElem?_set_ne (by omega)]; exact h9, by simpa using h10, h11, h12, h13⟩
theorem lset_get {l : List Lot} {i k : Nat} {x : Lot} (h : i < l.length) : (l.set i x).getD k default = if k = i then x else l.getD k default := by
  simp only [List.getD_eq_getElem?_getD, List.getElem?_set]
  by_cases e : k = i
  · subst e; simp [h]
  · rw [if_neg (fun e' => e e'.symm), if_neg e]
/-- the weight of a lot changes -/
theorem ShS.setL (h : ShS N H0 bv lv A l g tr H) (hlim : lim ≤ N) {k : Nat} (hk : k < A.length) (x : Int) : ∃ H', (∀ L, vstore lim L H (eptf 4 lv k 0) (.int .i64 x) 1 = some (L, H')) ∧ ShS N H0 bv lv A (l.set k ⟨x, (l.getD k default).l, (l.getD k default).t, (l.getD k default).b⟩) g tr H' := by
  obtain ⟨⟨n1, n2⟩, h2, h3, h4, h5, h6, h7, h8, h9, h10, h11, h12, h13⟩ := h
  refine ⟨_, fun L => h5.store (i := k) (j := 0) (y := ⟨x, (l.getD k default).l, (l.getD k default).t, (l.getD k default).b⟩) hlim (by omega) rfl rfl (by omega) (by simp [lotC, Lot.cells, splice, cellsV]), ?_⟩
  have e : setH H lv (lotC.all (l.set k ⟨x, (l.getD k default).l, (l.getD k default).t, (l.getD k default).b⟩)) = H.set (N + 1) (.row (lotC.all (l.set k ⟨x, (l.getD k default).l, (l.getD k default).t, (l.getD k default).b⟩)) true) := by rw [h3]; rfl
  have p := h5.put (l' := l.set k ⟨x, (l.getD k default).l, (l.getD k default).t, (l.getD k default).b⟩) (by simp)
  rw [e] at p ⊢
  refine ⟨⟨n1, by simpa using n2⟩, fun b hb => by rw [List.getElem?_set_ne (by omega)]; exact h2 b hb, h3, by rw [List.getElem?_set_ne (by omega)]; exact h4, p, by rw [List.getElem?_set_ne (by omega)]; exact h6, by rw [List.getElem?_set_ne (by omega)]; exact h7, by rw [List.getElem?_set_ne (by omega)]; exact h8, by rw [List.getElem?_set_ne (by omega)]; exact h9, h10, h11, by simpa using h12, fun i hi => ?_⟩
  rw [lset_get (by omega)]
  split
  · rename_i e; subst e; exact h13 i hi
  · exact h13 i hi
theorem fl_setL {k : Nat} {x a b c : Int} (hk : k < l.length) : ∀ i, (flOf (l.set k ⟨x, a, b, c⟩) g).left i = if i = k then x else (flOf l g).left i := fun i => by
  show ((l.set k ⟨x, a, b, c⟩).getD i default).w = _
  rw [lset_get hk]
  split <;> rfl
theorem fl_setG {w k : Nat} {x : Int} (hg : g.length = 36) (hw : w < 6) (hk : k < 6) : ∀ v i, (flOf l (g.set (w * 6 + k) x)).g v i = if v = w ∧ i = k then x else (flOf l g).g v i := fun v i => by
  show (if v < 6 ∧ i < 6 then (g.set (w * 6 + k) x).getD (v * 6 + i) 0 else 0) = _
  by_cases e : v < 6 ∧ i < 6
  · rw [if_pos e, getD_set (by omega)]
    by_cases e2 : v = w ∧ i = k
    · rw [if_pos e2, if_pos (by rw [e2.1, e2.2])]
    · rw [if_neg e2, if_neg (by omega)]
      show _ = (if v < 6 ∧ i < 6 then g.getD (v * 6 + i) 0 else 0)
      rw [if_pos e]
  · rw [if_neg e, if_neg (by omega)]
    show _ = (if v < 6 ∧ i < 6 then g.getD (v * 6 + i) 0 else 0)
    rw [if_neg e]
theorem fl_ext {p : Net} (h1 : l.length = p.nl) (h2 : l'.length = p.nl) (h : SameF p (flOf l g) (flOf l' g')) : flOf l' g' = flOf l g := by
  have e1 : (flOf l' g').left = (flOf l g).left := by
    funext i
    by_cases hi : i < p.nl
    · exact h.left i hi
    · show (l'.getD i default).w = (l.getD i default).w
      rw [List.getD_eq_getElem?_getD, List.getD_eq_getElem?_getD, List.getElem?_eq_none (by omega), List.getElem?_eq_none (by omega)]
  have e2 : (flOf l' g').g = (flOf l g).g := by
    funext w k; exact h.g w k
  cases hx : flOf l' g'
  cases hy : flOf l g
  rw [hx] at e1 e2
  rw [hy] at e1 e2
  simp only at e1 e2
  rw [e1, e2]
/-- how many lots were not tried -/
def untN (tr : List Bool) : Nat → Nat
  | 0 => 0
  | n + 1 => untN tr n + if trF tr n = true then 0 else 1
theorem unt_set {k : Nat} (hk : k < tr.length) (ht : trF tr k = false) : ∀ {n : Nat}, untN (tr.set k true) n + (if k < n then 1 else 0) = untN tr n
  | 0 => by simp [untN]
  | n + 1 => by
    have ih := unt_set hk ht (n := n)
    have e : trF (tr.set k true) n = if n = k then true else trF tr n := by
      simp only [trF, List.getD_eq_getElem?_getD, List.getElem?_set]
      by_cases e : k = n
      · subst e; simp [hk]
      · rw [if_neg e, if_neg (fun e' => e e'.symm)]
    simp only [untN, e]
    by_cases e2 : n = k
    · subst e2
      rw [if_neg (by omega)] at ih
      simp only [if_true, ht, Bool.false_eq_true, if_false]
      rw [if_pos (by omega)]; omega
    · rw [if_neg e2]
      have h3 : (k < n + 1) ↔ (k < n) := by omega
      simp only [h3]; omega
theorem unt_mono {tr' : List Bool} (h : ∀ k, trF tr k = true → trF tr' k = true) : ∀ {n : Nat}, untN tr' n ≤ untN tr n
  | 0 => Nat.le_refl _
  | n + 1 => by
    have ih := unt_mono h (n := n)
    simp only [untN]
    by_cases e : trF tr n = true
    · rw [if_pos e, if_pos (h n e)]; omega
    · rw [if_neg e]; split <;> omega
theorem trF_set {k : Nat} (hk : k < tr.length) : ∀ i, trF (tr.set k true) i = true ↔ (i = k ∨ trF tr i = true) := fun i => by
  simp only [trF, List.getD_eq_getElem?_getD, List.getElem?_set]
  by_cases e : k = i
  · subst e; simp [hk]
  · rw [if_neg e]
    constructor
    · exact Or.inr
    · rintro (h | h)
      · exact absurd h.symm e
      · exact h
end
end Go.Proofs.Ytlljkhhdhedajaa.Vm
