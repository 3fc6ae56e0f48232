/- Sorting: lists that are turned about inside a range; the insertion sort of whole numbers by a function, and the stable sort of few. -/
import Derived.Test.YtdipmhdekjlifaaPlK
namespace Go.Proofs.Ytdipmhdekjlifaa.Vm
open Go
set_option maxRecDepth 100000
set_option linter.unusedSimpArgs false
set_option linter.unusedVariables false
attribute [-simp] List.getD_eq_getElem?_getD
section
variable {α : Type} [Inhabited α]
/-- the same elements, and the same ones outside of a range -/
structure PermR (a b : Nat) (l l' : List α) : Prop where
  perm : l'.Perm l
  out : ∀ i, (i < a ∨ b ≤ i) → l'.getD i default = l.getD i default
theorem PermR.refl {a b : Nat} {l : List α} : PermR a b l l := ⟨.refl _, fun _ _ => rfl⟩
theorem PermR.trans {a b : Nat} {l l' l'' : List α} (h : PermR a b l l') (k : PermR a b l' l'') : PermR a b l l'' := ⟨k.perm.trans h.perm, fun i hi => (k.out i hi).trans (h.out i hi)⟩
theorem PermR.len {a b : Nat} {l l' : List α} (h : PermR a b l l') : l'.length = l.length := h.perm.length_eq
def swp (l : List α) (i j : Nat) : List α := (l.set i (l.getD j default)).set j (l.getD i default)
theorem swp_len {l : List α} {i j : Nat} : (swp l i j).length = l.length := by simp [swp]
theorem getD_of {l : List α} {i : Nat} (h : i < l.length) : l.getD i default = l[i] := by simp [List.getD_eq_getElem?_getD, h]
theorem setD_get {l : List α} {i k : Nat} {x : α} (h : i < l.length) : (l.set i x).getD k default = if k = i then x else l.getD k default := by
  simp only [List.getD_eq_getElem?_getD, List.getElem?_set]
  by_cases e : k = i
  · subst e; simp [h]
  · rw [if_neg (fun e' => e e'.symm), if_neg e]
theorem swp_get {l : List α} {i j k : Nat} (hi : i < l.length) (hj : j < l.length) : (swp l i j).getD k default = if k = j then l.getD i default else if k = i then l.getD j default else l.getD k default := by
  rw [swp, setD_get (by simpa using hj), setD_get hi]
theorem swp_perm {a b : Nat} {l : List α} {i j : Nat} (hi : a ≤ i ∧ i < b) (hj : a ≤ j ∧ j < b) (hb : b ≤ l.length) : PermR a b l (swp l i j) := by
  refine ⟨?_, fun k hk => by rw [swp_get (by omega) (by omega), if_neg (by omega), if_neg (by omega)]⟩
  have h1 : i < l.length := by omega
  have h2 : j < l.length := by omega
  rw [swp, getD_of h1, getD_of h2]
  exact List.set_set_perm h1 h2
end
section
variable {α : Type} [Inhabited α] {cf : α → α → Int}
def leC (cf : α → α → Int) (x y : α) : Prop := ¬ cf y x < 0
structure Ordr (cf : α → α → Int) : Prop where
  tr : ∀ x y z, leC cf x y → leC cf y z → leC cf x z
  tot : ∀ x y, leC cf x y ∨ leC cf y x
omit [Inhabited α] in
theorem Ordr.rf (h : Ordr cf) (x : α) : leC cf x x := (h.tot x x).elim id id
def SortR (cf : α → α → Int) (a b : Nat) (l : List α) : Prop := ∀ p q, a ≤ p → p < q → q < b → leC cf (l.getD p default) (l.getD q default)
/-- amid an insertion: all but the one at j stand in their order, and what is behind it is no less -/
def InsR (cf : α → α → Int) (a i j : Nat) (l : List α) : Prop :=
  (∀ p q, a ≤ p → p < q → q ≤ i → p ≠ j → q ≠ j → leC cf (l.getD p default) (l.getD q default)) ∧ ∀ q, j < q → q ≤ i → leC cf (l.getD j default) (l.getD q default)
theorem InsR.start {a i : Nat} {l : List α} (h : SortR cf a i l) : InsR cf a i i l :=
  ⟨fun p q h1 h2 h3 _ h5 => h p q h1 h2 (by omega), fun q h1 h2 => absurd h1 (by omega)⟩
theorem InsR.swap (ho : Ordr cf) {a i j : Nat} {l : List α} (h : InsR cf a i j l) (ha : a < j) (hj : j ≤ i) (hi : i < l.length) (hlt : cf (l.getD j default) (l.getD (j - 1) default) < 0) : InsR cf a i (j - 1) (swp l j (j - 1)) := by
  have hle : leC cf (l.getD j default) (l.getD (j - 1) default) := by
    rcases ho.tot (l.getD j default) (l.getD (j - 1) default) with h1 | h1
    · exact h1
    · exact absurd hlt h1
  have g : ∀ k, (swp l j (j - 1)).getD k default = if k = j - 1 then l.getD j default else if k = j then l.getD (j - 1) default else l.getD k default := fun k => swp_get (by omega) (by omega)
  refine ⟨fun p q h1 h2 h3 h4 h5 => ?_, fun q h1 h2 => ?_⟩
  · rw [g p, g q, if_neg h4, if_neg h5]
    by_cases e1 : p = j
    · rw [if_pos e1, if_neg (by omega)]
      exact h.1 (j - 1) q (by omega) (by omega) h3 (by omega) (by omega)
    · rw [if_neg e1]
      by_cases e2 : q = j
      · rw [if_pos e2]
        exact h.1 p (j - 1) h1 (by omega) (by omega) (by omega) (by omega)
      · rw [if_neg e2]; exact h.1 p q h1 h2 h3 e1 e2
  · rw [g (j - 1), g q, if_pos rfl, if_neg (by omega)]
    by_cases e : q = j
    · rw [if_pos e]; exact hle
    · rw [if_neg e]; exact h.2 q (by omega) h2
theorem InsR.done (ho : Ordr cf) {a i j : Nat} {l : List α} (h : InsR cf a i j l) (ha : a ≤ j) (hj : j ≤ i) (hx : j = a ∨ ¬ cf (l.getD j default) (l.getD (j - 1) default) < 0) : SortR cf a (i + 1) l := by
  intro p q h1 h2 h3
  by_cases e1 : p = j
  · subst e1; exact h.2 q h2 (by omega)
  · by_cases e2 : q = j
    · subst e2
      rcases hx with hx | hx
      · omega
      · by_cases e3 : p = q - 1
        · subst e3; exact hx
        · exact ho.tr _ _ _ (h.1 p (q - 1) h1 (by omega) (by omega) e1 (by omega)) hx
    · exact h.1 p q h1 h2 (by omega) e1 e2
end
theorem setSame {H : Hp} {b : Nat} {x : Blk} (h : H[b]? = some x) : H.set b x = H := by
  obtain ⟨h1, h2⟩ := List.getElem?_eq_some_iff.1 h
  rw [← h2, List.set_getElem_self]
theorem setGet {H : Hp} {b : Nat} {x : Blk} (h : b < H.length) : (H.set b x)[b]? = some x := by simp [h]
theorem dflt_int : (default : Int) = 0 := rfl
section
variable {lim : Nat} {H : Hp} {K : V → Hp → Prop} {b g : Nat} {l : List Int} {cf : Int → Int → Int} {fs cs : List V}
/-- what a function that compares says, whatever the row holds -/
def CmpI (H : Hp) (b g : Nat) (fs cs : List V) (l : List Int) (cf : Int → Int → Int) : Prop :=
  ∀ (H' : Hp) (lim : Nat) (x y : Int) (K : V → Hp → Prop), x ∈ l → y ∈ l → (∀ b', b' ≠ b → H'[b']? = H[b']?) → K (.int .i64 (cf x y)) H' → VCall tbl lim g (fs ++ .int .i64 x :: .int .i64 y :: cs) H' K
theorem isort_int (hb : H[b]? = some (.row (ints l) true)) (hlim : lim ≤ b) (hst : allStor fs = true ∧ allStor cs = true) (hc : CmpI H b g fs cs l cf) (ho : Ordr cf) {a e : Nat} (hae : a ≤ e ∧ e ≤ l.length) (hl : l.length ≤ 100000)
    (hK : ∀ l', PermR a e l l' → SortR cf a e l' → K (.tup []) (H.set b (.row (ints l') true))) : VCall tbl lim 84 [.sl b 0 l.length 1, .int .i64 a, .int .i64 e, .func (.func g) fs cs] H K := by
  refine VCall_fn tbl_at84 rfl ?_
  have hbl := (List.getElem?_eq_some_iff.1 hb).1
  simp (disch := omega) [vf84, wrap_i64]
  refine wLoop_up (e - (a + 1)) (fun i fr L H' => ∃ l', (fr 0 = .sl b 0 l.length 1 ∧ fr 1 = .int .i64 a ∧ fr 2 = .int .i64 e ∧ fr 3 = .func (.func g) fs cs ∧ fr 8 = .int .i64 ((a + 1 + i : Nat) : Int)) ∧ L = [] ∧ H' = H.set b (.row (ints l') true) ∧ PermR a e l l' ∧ SortR cf a (min e (a + 1 + i)) l') ⟨l, by simp, rfl, (setSame hb).symm, PermR.refl, fun p q h1 h2 h3 => by omega⟩ ?_
  rintro i hi fr L H' ⟨l', ⟨f0, f1, f2, f3, f8⟩, rfl, rfl, hp, hs⟩
  simp [f0, f1, f2, f3, f8]
  refine cond_dec (fun ht => ?_) fun hfl => ?_
  · have ht : i < e - (a + 1) := by omega
    rw [Nat.min_eq_right (by omega)] at hs
    simp [f8]
    refine wLoop_m (n := i + 1) (fun m fr L H' => ∃ l', (fr 0 = .sl b 0 l.length 1 ∧ fr 1 = .int .i64 a ∧ fr 2 = .int .i64 e ∧ fr 3 = .func (.func g) fs cs ∧ fr 8 = .int .i64 ((a + 1 + i : Nat) : Int) ∧ fr 9 = .int .i64 ((a + m : Nat) : Int)) ∧ L = [] ∧ H' = H.set b (.row (ints l') true) ∧ PermR a e l l' ∧ m ≤ i + 1 ∧ InsR cf a (a + 1 + i) (a + m) l') ⟨l', by simp [f0, f1, f2, f3, f8]; omega, rfl, rfl, hp, Nat.le_refl _, by rw [show a + (i + 1) = a + 1 + i by omega]; exact InsR.start hs⟩ ?_
    clear f0 f1 f2 f3 f8 hp hs l'
    rintro m fr L H' ⟨l', ⟨f0, f1, f2, f3, f8, f9⟩, rfl, rfl, hp, hm, hI⟩
    have hlen := hp.len
    have row := setGet (x := .row (ints l') true) hbl
    by_cases hm0 : m = 0
    · subst hm0
      have hs := hI.done ho (by omega) (by omega) (Or.inl rfl)
      simp (disch := omega) [f0, f1, f2, f3, f8, f9, wrap_i64]
      refine ⟨by omega, by omega, l', rfl, hp, ?_⟩
      rw [show a + 1 + (i + 1) = a + 1 + i + 1 by omega]; exact hs
    · have e1 : ((a : Int) + (m : Int)).toNat = a + m := by omega
      have e2 : ((a : Int) + (m : Int) - 1).toNat = a + m - 1 := by omega
      have gx : ∀ x, x < l'.length → vload none [] (H.set b (.row (ints l') true)) (.ptr b x) = some (.int .i64 (l'.getD x 0)) := fun x hx => row_load row hx
      have hmem : ∀ x, x < l'.length → l'.getD x 0 ∈ l := fun x hx => by
        rw [← hp.perm.mem_iff]
        have := getD_of hx
        rw [dflt_int] at this
        rw [this]; exact List.getElem_mem hx
      have hgt : ((a : Int) < (a : Int) + (m : Int)) = True := eq_true (by omega)
      simp (disch := omega) [f0, f1, f2, f3, f8, f9, hgt, wrap_i64, e1, e2, row_addr, gx, hst, -vload_ptrO]
      have key := fun K => hc (H.set b (.row (ints l') true)) (H.set b (.row (ints l') true)).length (l'.getD (a + m) 0) (l'.getD (a + m - 1) 0) K (hmem _ (by omega)) (hmem _ (by omega)) (fun b' hb' => by rw [List.getElem?_set_ne (fun e => hb' e.symm)])
      simp only [List.length_set] at key
      refine key _ ?_
      simp
      refine cond_dec (fun hlt => ?_) fun hlt => ?_
      · have w1 : ∀ L, vstore lim L (H.set b (.row (ints l') true)) (.ptr b (a + m)) (.int .i64 (l'.getD (a + m - 1) 0)) 1 = some (L, H.set b (.row (ints (l'.set (a + m) (l'.getD (a + m - 1) 0))) true)) := fun L => by
          rw [row_store row hlim (by omega), List.set_set]
        have row1 := setGet (x := .row (ints (l'.set (a + m) (l'.getD (a + m - 1) 0))) true) hbl
        have w2 : ∀ L, vstore lim L (H.set b (.row (ints (l'.set (a + m) (l'.getD (a + m - 1) 0))) true)) (.ptr b (a + m - 1)) (.int .i64 (l'.getD (a + m) 0)) 1 = some (L, H.set b (.row (ints (swp l' (a + m) (a + m - 1))) true)) := fun L => by
          rw [row_store row1 hlim (by simp; omega), List.set_set]; rfl
        have hsw := InsR.swap ho hI (by omega) (by omega) (by omega) hlt
        have hsw : InsR cf a (a + 1 + i) (a + (m - 1)) (swp l' (a + m) (a + m - 1)) := by
          have e3 : a + (m - 1) = a + m - 1 := by omega
          rw [e3]; exact hsw
        have hps := hp.trans (swp_perm (l := l') (i := a + m) (j := a + m - 1) (a := a) (b := e) ⟨by omega, by omega⟩ ⟨by omega, by omega⟩ (by omega))
        simp (disch := omega) [f0, f1, f2, f3, f8, f9, wrap_i64, e1, e2, row_addr, gx, w1, w2, -vstore, -vload_ptrO]
        exact ⟨m - 1, by omega, by omega, _, rfl, hps, by omega, hsw⟩
      · have hs := hI.done ho (by omega) (by omega) (Or.inr hlt)
        simp (disch := omega) [f0, f1, f2, f3, f8, f9, wrap_i64]
        refine ⟨by omega, by omega, l', rfl, hp, ?_⟩
        rw [show a + 1 + (i + 1) = a + 1 + i + 1 by omega]; exact hs
  · have : e ≤ a + 1 + i := by omega
    rw [Nat.min_eq_left this] at hs
    simp
    exact hK _ hp hs
/-- the stable sort of twenty or fewer: one insertion sort -/
theorem stable_int (hb : H[b]? = some (.row (ints l) true)) (hlim : lim ≤ b) (hst : allStor fs = true ∧ allStor cs = true) (hc : CmpI H b g fs cs l cf) (ho : Ordr cf) (hl : l.length < 20)
    (hK : ∀ l', PermR 0 l.length l l' → SortR cf 0 l.length l' → K (.tup []) (H.set b (.row (ints l') true))) : VCall tbl lim 72 [.sl b 0 l.length 1, .func (.func g) fs cs] H K := by
  refine VCall_fn tbl_at72 rfl ?_
  simp [vf72]
  refine VCall_fn tbl_at79 rfl ?_
  simp [vf79]
  refine wLoop_round ?_
  have e1 : ((20 : Int) ≤ (l.length : Int)) = False := eq_false (by omega)
  have e2 : ((20 : Int) < (l.length : Int)) = False := eq_false (by omega)
  simp [e1]
  refine isort_int hb hlim hst hc ho (a := 0) (e := l.length) ⟨by omega, Nat.le_refl _⟩ (by omega) fun l' hp hs => ?_
  simp
  refine wLoop_round ?_
  simp [e2]
  exact hK _ hp hs
end
end Go.Proofs.Ytdipmhdekjlifaa.Vm
