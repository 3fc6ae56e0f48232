/- Lists in the machine's memory, loops, tests. -/
import Derived.Test.YtpdnbmnnkefedaaGreatDoorVmRow
namespace Go.Proofs.YtpdnbmnnkefedaaGreatDoor.Vm
open Go
set_option linter.unusedVariables false
set_option linter.unusedSimpArgs false
attribute [-simp] List.getD_eq_getElem?_getD

/-- a number that an int holds -/
def I64 (n : Int) : Prop := -9223372036854775808 ≤ n ∧ n ≤ 9223372036854775807

/-! loops and tests -/
/-- a loop of at most N rounds -/
theorem wLoop_up {T : Tbl} {lim : Nat} {body : VCode} {Q : VExit → St → Prop} (N : Nat) (J : Nat → Fr → Lo → Hp → Prop) {s : St} (start : J 0 s.fr s.L s.H)
    (round : ∀ i, i ≤ N → ∀ fr L H, J i fr L H → wCode T lim body (seqQ (fun s' => i < N ∧ J (i + 1) s'.fr s'.L s'.H) Q) ⟨fr, L, H⟩) : wCode T lim (.loop body) Q s := by
  have key : ∀ k i s, k = N - i → i ≤ N → J i s.fr s.L s.H → wCode T lim (.loop body) Q s := by
    intro k
    induction k using Nat.strongRecOn with
    | _ k ih =>
      intro i s hk hi hI
      obtain ⟨k', e, s', h1, h2⟩ := wCode_sound (round i hi s.fr s.L s.H hI)
      show wSem T lim (.loop body) Q s
      cases e with
      | normal =>
        obtain ⟨hlt, hIm⟩ := h2
        obtain ⟨j, e', s'', h3, h4⟩ := ih (N - (i + 1)) (by omega) (i + 1) s' rfl (by omega) hIm
        refine ⟨max k' j + 1, e', s'', ?_, h4⟩
        simp only [evCode, evCode_le (evFn_le T (show k' ≤ max k' j + 1 by omega)) (show k' ≤ max k' j by omega) h1]
        exact evCode_le (evFn_le T (show j ≤ max k' j + 1 by omega)) (show j ≤ max k' j by omega) h3
      | exit id => exact ⟨k' + 1, .exit id, s', by simp only [evCode, evCode_le (evFn_le T (Nat.le_succ k')) (Nat.le_refl k') h1], h2⟩
      | ret => exact ⟨k' + 1, .ret, s', by simp only [evCode, evCode_le (evFn_le T (Nat.le_succ k')) (Nat.le_refl k') h1], h2⟩
  exact key _ 0 s rfl (Nat.zero_le _) start

/-- a test of a proposition -/
theorem cond_dec {T : Tbl} {lim : Nat} {p : Prop} [Decidable p] {x y : VCode} {Q : VExit → St → Prop} {s : St} (ht : p → wCode T lim x Q s) (hf : ¬ p → wCode T lim y Q s) : wCond T lim (.bool (decide p)) x y Q s := by
  by_cases h : p
  · rw [decide_eq_true h]; exact ht h
  · rw [decide_eq_false h]; exact hf h
theorem cond_ndec {T : Tbl} {lim : Nat} {p : Prop} [Decidable p] {x y : VCode} {Q : VExit → St → Prop} {s : St} (ht : ¬ p → wCode T lim x Q s) (hf : p → wCode T lim y Q s) : wCond T lim (.bool (!decide p)) x y Q s := by
  by_cases h : p
  · rw [decide_eq_true h]; exact hf h
  · rw [decide_eq_false h]; exact ht h

/-! slices of ints -/
inductive SlV (H : Hp) : V → List Int → Prop
  | nil : SlV H .snil []
  | empty : SlV H .sempty []
  | sl {b off : Nat} {cs : List V} {own : Bool} {l : List Int} : H[b]? = some (.row cs own) → off + l.length ≤ cs.length → (cs.drop off).take l.length = ints l → SlV H (.sl b off l.length 1) l

section
variable {H : Hp} {v : V} {l : List Int}
theorem SlV.len (h : SlV H v l) : vlenS v = some (.int .i64 l.length) := by
  cases h <;> rfl
theorem SlV.stor (h : SlV H v l) : stor v = true := by
  cases h <;> rfl
theorem SlV.one (h : SlV H v l) : cellsV v = [v] := by
  cases h <;> rfl
theorem SlV.mono {H' : Hp} (hx : HX H H') (h : SlV H v l) : SlV H' v l := by
  cases h with
  | nil => exact .nil
  | empty => exact .empty
  | sl h1 h2 h3 => exact .sl (hx.get h1) h2 h3
theorem SlV.cells (h : SlV H v l) : vcells 1 H v = some (ints l) := by
  cases h with
  | nil => rfl
  | empty => rfl
  | sl h1 h2 h3 => simp [vcells, h1, h2, h3]
/-- the address of an element -/
def ept (sz : Nat) (v : V) (i : Nat) : V := match v with
  | .sl b off _ _ => .ptr b (off + i * sz)
  | _ => dv
theorem SlV.addr (h : SlV H v l) {i : Int} (hi : 0 ≤ i ∧ i < l.length) : viaddrS 1 v (.int .i64 i) = some (ept 1 v i.toNat) := by
  cases h with
  | nil => simp at hi; omega
  | empty => simp at hi; omega
  | sl h1 h2 h3 => rw [viaddrS_in hi]; rfl
theorem SlV.load (h : SlV H v l) {i : Nat} (hi : i < l.length) {L : Lo} : vload none L H (ept 1 v i) = some (.int .i64 (l.getD i 0)) := by
  cases h with
  | nil => simp at hi
  | empty => simp at hi
  | sl h1 h2 h3 =>
    rename_i b off cs own
    show vload none L H (.ptr b (off + i * 1)) = _
    rw [Nat.mul_one, vload_ptr h1]
    have hlt : off + i < cs.length := by omega
    simp only [rd, hlt, if_true]
    have e : (cs.drop off)[i]? = (ints l)[i]? := by
      rw [← h3, List.getElem?_take_of_lt hi]
    rw [List.getElem?_drop, ints_get?, List.getElem?_eq_getElem hi] at e
    simp [List.getD_eq_getElem?_getD, e, hi]
theorem lpId_ept {sz i : Nat} {v : V} : lpId (ept sz v i) = none := by cases v <;> rfl
attribute [simp] lpId_ept
/-- a part of a slice -/
def subV (v : V) (a b : Nat) : V := match v with
  | .sl q off _ sz => if a = 0 then .sl q off b sz else if a = b then .sempty else .sl q (off + a * sz) (b - a) sz
  | v => v
theorem SlV.subW (h : SlV H v l) {a b : Nat} (hab : a ≤ b ∧ b ≤ l.length) (hpos : 0 < l.length) {lo hi : Option V} (hb : vbounds l.length lo hi = some (a, b)) : vslS 1 v lo hi = some (subV v a b) := by
  cases h with
  | nil => simp at hpos
  | empty => simp at hpos
  | sl h1 h2 h3 =>
    simp only [vslS, if_true, hb, subV]
    split
    · rfl
    · split <;> simp
theorem SlV.sub (h : SlV H v l) {a b : Nat} (hab : a ≤ b ∧ b ≤ l.length) : SlV H (subV v a b) ((l.drop a).take (b - a)) := by
  cases h with
  | nil =>
    have : b = 0 := by simp at hab; omega
    subst this
    simpa [subV] using SlV.nil
  | empty =>
    have : b = 0 := by simp at hab; omega
    subst this
    simpa [subV] using SlV.empty
  | sl h1 h2 h3 =>
    rename_i q off cs own
    have hl : ((l.drop a).take (b - a)).length = b - a := by simp; omega
    simp only [subV]
    split
    · rename_i h0; subst h0
      rw [List.drop_zero, Nat.sub_zero]
      have hl' : (l.take b).length = b := by simp; omega
      have := SlV.sl (H := H) (l := l.take b) (off := off) h1 (by omega) (by
        rw [hl']
        have e : (cs.drop off).take b = ((cs.drop off).take l.length).take b := by rw [List.take_take]; congr 1; omega
        rw [e, h3]; simp [ints, List.map_take])
      rw [hl'] at this
      exact this
    · split
      · rename_i e; subst e
        simpa using SlV.empty
      · have := SlV.sl (H := H) (l := (l.drop a).take (b - a)) (off := off + a) h1 (by omega) (by
          rw [hl]
          have e : (cs.drop (off + a)).take (b - a) = (((cs.drop off).take l.length).drop a).take (b - a) := by
            rw [List.drop_take, List.take_take, List.drop_drop]; congr 1; omega
          rw [e, h3]; simp [ints, List.map_take, List.map_drop])
        rw [hl] at this
        rw [Nat.mul_one]
        exact this
theorem vlen_nonneg : (0 : Int) ≤ (l.length : Int) := by omega
end

theorem leT {a b : Nat} (h : a ≤ b) : (a ≤ b) = True := eq_true h
theorem ltT {a b : Nat} (h : a < b) : (a < b) = True := eq_true h
theorem take_snoc {l : List Int} {i : Nat} (h : i < l.length) : l.take (i + 1) = l.take i ++ [l.getD i 0] := by
  rw [List.take_add_one, List.getElem?_eq_getElem h, List.getD_eq_getElem?_getD, List.getElem?_eq_getElem h]
  rfl

theorem vslA_all {n : Nat} {H : Hp} {b off : Nat} {cs : List V} {own : Bool} (h : H[b]? = some (.row cs own)) (hn : off + n ≤ cs.length) : vslA n 1 H (.ptr b off) none none = some (.sl b off n 1) := by
  simp [vslA, h, hn, vbounds]

theorem vcopy_ints {lim : Nat} {H : Hp} {s : V} {l m : List Int} (hs : SlV H s l) {b off n : Nat} (hl : lim ≤ b) (hb : H[b]? = some (.row (ints m) true)) (hn : l.length ≤ n) (hm : off + n ≤ m.length) :
    vcopy lim 1 H (.sl b off n 1) s = some (.int .i64 l.length, H.set b (.row (ints (m.take off ++ l ++ m.drop (off + l.length))) true)) := by
  unfold vcopy
  rw [hs.len, hs.cells]
  have e : min l.length n = l.length := by omega
  simp only [vlenS, Int.toNat_natCast, e, Nat.mul_one]
  have ht : (ints l).take l.length = ints l := List.take_of_length_le (by simp [ints_length])
  split
  · rename_i h0
    have : l = [] := List.eq_nil_of_length_eq_zero h0
    subst this
    simp [h0]
    have hlt := (List.getElem?_eq_some_iff.1 hb).1
    have := (List.getElem?_eq_some_iff.1 hb).2
    rw [← this, List.set_getElem_self]
  · simp only [if_true, ht, vstoreH, hl, hb, ints_length]
    rw [if_pos (by omega)]
    simp [splice_ints]

/-- a slice that the call made: a whole row of one's own -/
inductive OwnV (n : Nat) (H : Hp) : V → List Int → Prop
  | nil : OwnV n H .snil []
  | row {b : Nat} {l : List Int} : n ≤ b → H[b]? = some (.row (ints l) true) → OwnV n H (.sl b 0 l.length 1) l

/-- what append of one's own list leaves -/
def apH (H : Hp) (v : V) (new : List V) (all : List V) : Hp := match v with
  | .sl b _ _ _ => (H ++ [Blk.row new true]).set b .dead ++ [Blk.row all true]
  | _ => H ++ [Blk.row new true] ++ [Blk.row all true]

section
variable {n : Nat} {H : Hp} {v : V} {l : List Int}
theorem OwnV.sl (h : OwnV n H v l) : SlV H v l := by
  cases h with
  | nil => exact .nil
  | row _ h3 => exact .sl h3 (by simp) (by rw [List.drop_zero, List.take_of_length_le (by simp)])
theorem OwnV.mono {H' : Hp} (hx : HX H H') (h : OwnV n H v l) : OwnV n H' v l := by
  cases h with
  | nil => exact .nil
  | row h1 h3 => exact .row h1 (hx.get h3)
theorem OwnV.le {n m : Nat} (hnm : n ≤ m) (h : OwnV m H v l) : OwnV n H v l := by
  cases h with
  | nil => exact .nil
  | row h1 h3 => exact .row (by omega) h3
theorem OwnV.append (h : OwnV n H v l) {lim : Nat} {x : Int} (hn : lim ≤ n ∧ l.length < 1000000) :
    vappend lim 1 8 (H ++ [.row [.int .i64 x] true]) v (.sl H.length 0 1 1) = some (.sl (H.length + 1) 0 (l.length + 1) 1, apH H v [.int .i64 x] (ints (l ++ [x]))) := by
  have hc : (H ++ [Blk.row [V.int .i64 x] true])[H.length]? = some (.row [.int .i64 x] true) := List.getElem?_concat_length
  cases h with
  | nil => simp [vappend, vcells, vlenS, apH, ints]
  | row h1 h3 =>
    rename_i b
    have hb := (List.getElem?_eq_some_iff.1 h3).1
    have h3' : (H ++ [Blk.row [V.int .i64 x] true])[b]? = some (.row (ints l) true) := by rw [List.getElem?_append_left hb]; exact h3
    simp only [vappend, vcells, hc, vlenS]
    simp [h3', show lim ≤ b by omega, show (l.length + 1) * 8 ≤ 140737488355328 by omega, show l.length + 1 < 4611686018427387904 by omega, apH]
    simp [ints]
theorem OwnV.ap (h : OwnV n H v l) (hnH : n ≤ H.length) {x : Int} {new : List V} : OwnV n (apH H v new (ints (l ++ [x]))) (.sl (H.length + 1) 0 (l.length + 1) 1) (l ++ [x]) := by
  have e : l.length + 1 = (l ++ [x]).length := by simp
  rw [e]
  cases h with
  | nil =>
    refine .row (by omega) ?_
    have : H.length + 1 = (H ++ [Blk.row new true]).length := by simp
    rw [this]; show (H ++ [Blk.row new true] ++ [Blk.row _ true])[_]? = _
    exact List.getElem?_concat_length
  | row h1 h3 =>
    rename_i b
    refine .row (by omega) ?_
    have : H.length + 1 = ((H ++ [Blk.row new true]).set b .dead).length := by simp
    rw [this]; show ((H ++ [Blk.row new true]).set b .dead ++ [Blk.row _ true])[_]? = _
    exact List.getElem?_concat_length
theorem OwnV.apX {H0 : Hp} (hx : HX H0 H) (h : OwnV n H v l) (hn : H0.length ≤ n) {new all : List V} : HX H0 (apH H v new all) := by
  obtain ⟨X, rfl⟩ := hx
  cases h with
  | nil => exact ⟨X ++ [.row new true] ++ [.row all true], by simp [apH]⟩
  | row h1 h3 =>
    rename_i b
    refine HX.of (by simp [apH]; omega) fun i hi => ?_
    simp only [apH]
    rw [List.getElem?_append_left (by simp; omega), List.getElem?_set_ne (by omega), List.getElem?_append_left (by simp; omega), List.getElem?_append_left hi]
theorem OwnV.apLen (h : OwnV n H v l) {new all : List V} : H.length ≤ (apH H v new all).length := by
  cases h <;> simp [apH] <;> omega
end

/-- stores into arrays of ints of the activation -/
theorem vstore_lp_int {lim : Nat} {L : Lo} {H : Hp} {id off : Nat} {n : Int} {l : List Int} (h : L[id]? = some (ints l)) (hi : off < l.length) : vstore lim L H (.lp id off) (.int .i64 n) 1 = some (L.set id (ints (l.set off n)), H) := by
  have : off + 1 ≤ l.length := hi
  simp [vstore, h, this, splice_ints_one hi]

end Go.Proofs.YtpdnbmnnkefedaaGreatDoor.Vm
