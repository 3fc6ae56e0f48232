/- Lists of records in the machine's memory: slices whose elements are k cells. -/
import Derived.Test.YtpdnbmnnkefedaaGreatDoorVmLib2
import Derived.Test.YtpdnbmnnkefedaaGreatDoorVmArg
namespace Go.Proofs.YtpdnbmnnkefedaaGreatDoor.Vm
open Go
set_option maxRecDepth 100000
set_option linter.unusedVariables false
set_option linter.unusedSimpArgs false
attribute [-simp] List.getD_eq_getElem?_getD

theorem rdN {cs : List V} {o : Nat} : rd none cs o = cs[o]? := by
  simp only [rd]
  split
  · rename_i h; simp [List.getD_eq_getElem?_getD, h]
  · rename_i h; rw [List.getElem?_eq_none (by omega)]
theorem rdS {n : Nat} {cs : List V} {o : Nat} : rd (some n) cs o = if o + n ≤ cs.length then some (.agg ((cs.drop o).take n)) else none := Eq.trans rfl rfl

theorem loAt {α : Type} {X l : List α} {k : Nat} : (X ++ l)[X.length + k]? = l[k]? := by rw [List.getElem?_append_right (by omega)]; congr 1; omega
theorem loAt0 {α : Type} {X l : List α} : (X ++ l)[X.length]? = l[0]? := by rw [List.getElem?_append_right (by omega)]; congr 1; omega

/-- how values of a type lie in cells -/
structure Cod (α : Type) (k : Nat) where
  cells : α → List V
  len : ∀ a, (cells a).length = k

section
variable {α : Type} {k : Nat} {c : Cod α k}
def Cod.all (c : Cod α k) (l : List α) : List V := (l.map c.cells).flatten
theorem Cod.all_nil : c.all ([] : List α) = [] := rfl
theorem Cod.all_cons {x : α} {l : List α} : c.all (x :: l) = c.cells x ++ c.all l := by simp [Cod.all]
theorem Cod.all_append {l m : List α} : c.all (l ++ m) = c.all l ++ c.all m := by simp [Cod.all]
theorem Cod.all_one {x : α} : c.all [x] = c.cells x := by simp [Cod.all]
theorem Cod.all_len : ∀ {l : List α}, (c.all l).length = l.length * k
  | [] => by simp [Cod.all]
  | x :: l => by
    have h1 : (c.all l).length = l.length * k := Cod.all_len
    rw [Cod.all_cons, List.length_append, h1, c.len, List.length_cons, Nat.add_mul]; omega
theorem Cod.all_drop : ∀ {l : List α} {i : Nat}, (c.all l).drop (i * k) = c.all (l.drop i)
  | [], i => by simp [Cod.all]
  | x :: l, 0 => by simp
  | x :: l, i + 1 => by
    rw [Cod.all_cons, Nat.add_mul, Nat.one_mul, List.drop_append, List.drop_of_length_le (by rw [c.len]; omega), List.nil_append, c.len]
    have : i * k + k - k = i * k := by omega
    rw [this, Cod.all_drop]; rfl
theorem Cod.all_take : ∀ {l : List α} {i : Nat}, (c.all l).take (i * k) = c.all (l.take i)
  | [], i => by simp [Cod.all]
  | x :: l, 0 => by simp [Cod.all]
  | x :: l, i + 1 => by
    rw [Cod.all_cons, Nat.add_mul, Nat.one_mul, List.take_append, List.take_of_length_le (by rw [c.len]; omega), c.len]
    have : i * k + k - k = i * k := by omega
    rw [this, Cod.all_take, List.take_succ_cons, Cod.all_cons]
theorem Cod.all_at [Inhabited α] {l : List α} {i j : Nat} (hi : i < l.length) (hj : j < k) : (c.all l)[i * k + j]? = (c.cells (l.getD i default))[j]? := by
  have h1 : (c.all l)[i * k + j]? = ((c.all l).drop (i * k))[j]? := by rw [List.getElem?_drop]
  rw [h1, Cod.all_drop]
  have h2 : l.drop i = l.getD i default :: l.drop (i + 1) := by
    rw [List.drop_eq_getElem_cons hi]; simp [List.getD_eq_getElem?_getD, hi]
  rw [h2, Cod.all_cons, List.getElem?_append_left (by rw [c.len]; omega)]

/-- a slice of such values -/
inductive LstV (c : Cod α k) (H : Hp) : V → List α → Prop
  | nil : LstV c H .snil []
  | empty : LstV c H .sempty []
  | sl {b off : Nat} {cs : List V} {own : Bool} {l : List α} : H[b]? = some (.row cs own) → off + l.length * k ≤ cs.length → (cs.drop off).take (l.length * k) = c.all l → LstV c H (.sl b off l.length k) l
/-- the address of a cell of an element -/
def eptf (k : Nat) (v : V) (i j : Nat) : V := match v with
  | .sl b off _ _ => .ptr b (off + i * k + j)
  | _ => dv

variable {H : Hp} {v : V} {l : List α}
theorem LstV.len (h : LstV c H v l) : vlenS v = some (.int .i64 l.length) := by cases h <;> rfl
theorem LstV.stor (h : LstV c H v l) : stor v = true := by cases h <;> rfl
theorem LstV.one (h : LstV c H v l) : cellsV v = [v] := by cases h <;> rfl
theorem LstV.mono {H' : Hp} (hx : HX H H') (h : LstV c H v l) : LstV c H' v l := by
  cases h with
  | nil => exact .nil
  | empty => exact .empty
  | sl h1 h2 h3 => exact .sl (hx.get h1) h2 h3
theorem LstV.cells (h : LstV c H v l) : vcells k H v = some (c.all l) := by
  cases h with
  | nil => rfl
  | empty => rfl
  | sl h1 h2 h3 => simp [vcells, h1, h2, h3]
theorem LstV.addr (h : LstV c H v l) {i : Int} (hi : 0 ≤ i ∧ i < l.length) : viaddrS k v (.int .i64 i) = some (ept k v i.toNat) := by
  cases h with
  | nil => simp at hi; omega
  | empty => simp at hi; omega
  | sl h1 h2 h3 => rw [viaddrS_in hi]; rfl
theorem LstV.at (h : LstV c H v l) {i : Nat} (hi : i < l.length) : viaddrS k v (.int .i64 (i : Int)) = some (ept k v i) := by
  have := h.addr (i := (i : Int)) (by omega)
  simpa using this
theorem LstV.faddr (h : LstV c H v l) {i j : Nat} (hi : i < l.length) : vfaddr j (ept k v i) = some (eptf k v i j) := by
  cases h with
  | nil => simp at hi
  | empty => simp at hi
  | sl h1 h2 h3 => rfl
theorem LstV.faddr2 (h : LstV c H v l) {i j m : Nat} (hi : i < l.length) : vfaddr m (eptf k v i j) = some (eptf k v i (j + m)) := by
  cases h with
  | nil => simp at hi
  | empty => simp at hi
  | sl h1 h2 h3 => simp only [eptf, vfaddr]; congr 2; omega
theorem LstV.rdAt [Inhabited α] (h : LstV c H v l) {i j m : Nat} (hi : i < l.length) (hj : j + m ≤ k) {L : Lo} : vload (some m) L H (eptf k v i j) = rd (some m) (c.cells (l.getD i default)) j := by
  cases h with
  | nil => simp at hi
  | empty => simp at hi
  | sl h1 h2 h3 =>
    rename_i b off cs own
    show vload _ L H (.ptr b (off + i * k + j)) = _
    rw [vload_ptr h1]
    have hm : (i + 1) * k ≤ l.length * k := Nat.mul_le_mul_right _ hi
    rw [Nat.add_mul, Nat.one_mul] at hm
    have e : (cs.drop (off + i * k)).take k = c.cells (l.getD i default) := by
      have e1 : (((cs.drop off).take (l.length * k)).drop (i * k)).take k = (c.all (l.drop i)).take k := by rw [h3, Cod.all_drop]
      have h2 : l.drop i = l.getD i default :: l.drop (i + 1) := by
        rw [List.drop_eq_getElem_cons hi]; simp [List.getD_eq_getElem?_getD, hi]
      rw [h2, Cod.all_cons, List.take_append_of_le_length (by rw [c.len]; omega), List.take_of_length_le (l := c.cells _) (by rw [c.len]; omega)] at e1
      rw [← e1, List.drop_take, List.take_take, List.drop_drop]
      congr 1; omega
    simp only [rd]
    rw [if_pos (by omega), if_pos (by rw [c.len]; omega), ← e]
    congr 2
    rw [List.drop_take, List.take_take, List.drop_drop]
    congr 1; omega
theorem LstV.rd1 [Inhabited α] (h : LstV c H v l) {i j : Nat} (hi : i < l.length) (hj : j < k) {L : Lo} : vload none L H (eptf k v i j) = rd none (c.cells (l.getD i default)) j := by
  cases h with
  | nil => simp at hi
  | empty => simp at hi
  | sl h1 h2 h3 =>
    rename_i b off cs own
    show vload _ L H (.ptr b (off + i * k + j)) = _
    rw [vload_ptr h1]
    have hm : (i + 1) * k ≤ l.length * k := Nat.mul_le_mul_right _ hi
    rw [Nat.add_mul, Nat.one_mul] at hm
    have e : cs[off + i * k + j]? = (c.cells (l.getD i default))[j]? := by
      rw [← Cod.all_at hi hj, ← h3, List.getElem?_take_of_lt (by omega), List.getElem?_drop]
      congr 1; omega
    simp only [rd, List.getD_eq_getElem?_getD] at e ⊢
    rw [if_pos (by omega), if_pos (by rw [c.len]; exact hj), e]
theorem LstV.load [Inhabited α] (h : LstV c H v l) {i : Nat} (hi : i < l.length) {L : Lo} : vload (some k) L H (ept k v i) = some (.agg (c.cells (l.getD i default))) := by
  have := h.rdAt (L := L) (j := 0) (m := k) hi (by omega)
  have e : eptf k v i 0 = ept k v i := by cases v <;> rfl
  rw [e] at this
  rw [this]
  simp [rd, c.len]
  exact List.take_of_length_le (by rw [c.len]; omega)
theorem LstV.load1 [Inhabited α] {c : Cod α 1} {l : List α} (h : LstV c H v l) {i : Nat} (hi : i < l.length) {L : Lo} : vload none L H (ept 1 v i) = rd none (c.cells (l.getD i default)) 0 := by
  have := h.rd1 (L := L) (j := 0) hi (by omega)
  have e : eptf 1 v i 0 = ept 1 v i := by cases v <;> rfl
  rwa [e] at this
theorem lpId_eptf {sz i j : Nat} {v : V} : lpId (eptf sz v i j) = none := by cases v <;> rfl
attribute [simp] lpId_eptf
theorem LstV.subW (h : LstV c H v l) {a b : Nat} (hab : a ≤ b ∧ b ≤ l.length) (hpos : 0 < l.length) {lo hi : Option V} (hb : vbounds l.length lo hi = some (a, b)) : vslS k v lo hi = some (subV v a b) := by
  cases h with
  | nil => simp at hpos
  | empty => simp at hpos
  | sl h1 h2 h3 =>
    simp only [vslS, if_true, hb, subV]
    split
    · rfl
    · split <;> simp
theorem LstV.sub (h : LstV c H v l) {a b : Nat} (hab : a ≤ b ∧ b ≤ l.length) : LstV c H (subV v a b) ((l.drop a).take (b - a)) := by
  cases h with
  | nil =>
    have : b = 0 := by simp at hab; omega
    subst this
    simpa [subV] using LstV.nil
  | empty =>
    have : b = 0 := by simp at hab; omega
    subst this
    simpa [subV] using LstV.empty
  | sl h1 h2 h3 =>
    rename_i q off cs own
    have hl : ((l.drop a).take (b - a)).length = b - a := by simp; omega
    have hm : b * k ≤ l.length * k := Nat.mul_le_mul_right _ hab.2
    have hm2 : a * k ≤ b * k := Nat.mul_le_mul_right _ hab.1
    have key : (cs.drop (off + a * k)).take ((b - a) * k) = c.all ((l.drop a).take (b - a)) := by
      have e : (cs.drop (off + a * k)).take ((b - a) * k) = (((cs.drop off).take (l.length * k)).drop (a * k)).take ((b - a) * k) := by
        rw [List.drop_take, List.take_take, List.drop_drop]; congr 1
        rw [Nat.sub_mul]; omega
      rw [e, h3, Cod.all_drop, Cod.all_take]
    simp only [subV]
    split
    · rename_i h0; subst h0
      have := LstV.sl (c := c) (H := H) (l := (l.drop 0).take (b - 0)) (off := off) h1 (by rw [hl]; simp; omega) (by rw [hl]; simpa using key)
      rw [hl] at this
      simpa using this
    · split
      · rename_i e; subst e
        simpa using LstV.empty
      · have := LstV.sl (c := c) (H := H) (l := (l.drop a).take (b - a)) (off := off + a * k) h1 (by rw [hl, Nat.sub_mul]; omega) (by rw [hl]; exact key)
        rw [hl] at this
        exact this

/-- a list that the call made: a whole row of one's own -/
inductive OwnT (n : Nat) (c : Cod α k) (H : Hp) : V → List α → Prop
  | nil : OwnT n c H .snil []
  | row {b : Nat} {l : List α} : n ≤ b → H[b]? = some (.row (c.all l) true) → OwnT n c H (.sl b 0 l.length k) l
variable {n : Nat}
theorem OwnT.lst (h : OwnT n c H v l) : LstV c H v l := by
  cases h with
  | nil => exact .nil
  | row h1 h2 => exact .sl h2 (by rw [Cod.all_len]; omega) (by rw [List.drop_zero, List.take_of_length_le (by rw [Cod.all_len]; omega)])
theorem OwnT.mono {H' : Hp} (hx : HX H H') (h : OwnT n c H v l) : OwnT n c H' v l := by
  cases h with
  | nil => exact .nil
  | row h1 h2 => exact .row h1 (hx.get h2)
theorem OwnT.le {m : Nat} (hnm : n ≤ m) (h : OwnT m c H v l) : OwnT n c H v l := by
  cases h with
  | nil => exact .nil
  | row h1 h2 => exact .row (by omega) h2
theorem OwnT.keep {H' : Hp} (h : OwnT n c H v l) (hk : ∀ b, n ≤ b → H'[b]? = H[b]?) : OwnT n c H' v l := by
  cases h with
  | nil => exact .nil
  | row h1 h2 => exact .row h1 (by rw [hk _ h1]; exact h2)
/-- append of a whole list -/
theorem OwnT.appendL (h : OwnT n c H v l) {lim bytes : Nat} {y : V} {m : List α} {H1 : Hp} (hy : LstV c H1 y m) (hx : HX H H1) (hn : lim ≤ n ∧ n ≤ H.length) (hb : bytes ≤ 1000) (hl : l.length + m.length ≤ 1000000) (hm : 0 < m.length) :
    ∃ v' H', vappend lim k bytes H1 v y = some (v', H') ∧ OwnT n c H' v' (l ++ m) ∧ (∀ H0, HX H0 H → H0.length ≤ n → HX H0 H') ∧ n ≤ H'.length ∧ H'.length = H1.length + 1 ∧ ∀ b', b' < H1.length → (∀ o z y, v ≠ .sl b' o z y) → H'[b']? = H1[b']? := by
  have hb1 : (l.length + m.length) * bytes ≤ 1000000 * 1000 := Nat.mul_le_mul hl hb
  have hb2 : m.length * bytes ≤ 1000000 * 1000 := Nat.mul_le_mul (by omega) hb
  have hlen := hx.len
  cases h with
  | nil =>
    refine ⟨.sl H1.length 0 m.length k, H1 ++ [.row (c.all m) true], ?_, ?_, fun H0 h0 _ => (h0.trans hx).trans HX.push, by simp; omega, by simp, fun b' hb' _ => List.getElem?_append_left hb'⟩
    · simp [vappend, hy.cells, hy.len, show m.length ≠ 0 by omega, show m ≠ [] by intro e; subst e; simp at hm, show m.length * bytes ≤ 140737488355328 by omega, show m.length < 4611686018427387904 by omega]
    · rw [List.nil_append]; exact .row (by omega) List.getElem?_concat_length
  | row h1 h2 =>
    rename_i b
    have hbl := (List.getElem?_eq_some_iff.1 h2).1
    refine ⟨.sl H1.length 0 (l.length + m.length) k, H1.set b .dead ++ [.row (c.all l ++ c.all m) true], ?_, ?_, fun H0 h0 hk0 => ?_, by simp; omega, by simp, fun b' hb' hne => ?_⟩
    · simp [vappend, hy.cells, hy.len, hx.get h2, Cod.all_len, show lim ≤ b by omega, show (l.length + m.length) * bytes ≤ 140737488355328 by omega, show l.length + m.length < 4611686018427387904 by omega]
    · have e : l.length + m.length = (l ++ m).length := by simp
      rw [e, ← Cod.all_append]
      refine .row (by omega) ?_
      have e : H1.length = (H1.set b .dead).length := by simp
      rw [e]; exact List.getElem?_concat_length
    · obtain ⟨X, rfl⟩ := h0.trans hx
      refine HX.of (by simp; omega) fun i hi => ?_
      rw [List.getElem?_append_left (by simp; omega), List.getElem?_set_ne (by omega), List.getElem?_append_left hi]
    · rw [List.getElem?_append_left (by simpa using hb'), List.getElem?_set_ne (fun e => hne _ _ _ (by rw [e]))]
/-- append of one that was just laid -/
theorem OwnT.append (h : OwnT n c H v l) {lim bytes : Nat} {x : α} {cs : List V} (hcs : c.cells x = cs) (hn : lim ≤ n ∧ n ≤ H.length) (hb : bytes ≤ 1000) (hl : l.length < 1000000) :
    ∃ v' H', vappend lim k bytes (H ++ [.row cs true]) v (.sl H.length 0 1 k) = some (v', H') ∧ OwnT n c H' v' (l ++ [x]) ∧ (∀ H0, HX H0 H → H0.length ≤ n → HX H0 H') ∧ n ≤ H'.length ∧ H'.length = H.length + 2 ∧ ∀ b', b' < H.length → (∀ o z y, v ≠ .sl b' o z y) → H'[b']? = H[b']? := by
  subst hcs
  have hy : LstV c (H ++ [.row (c.cells x) true]) (.sl H.length 0 1 k) [x] := by
    have := LstV.sl (c := c) (l := [x]) (off := 0) (H := H ++ [.row (c.cells x) true]) (b := H.length) (own := true) (cs := c.cells x) List.getElem?_concat_length (by simp [c.len]) (by simp [Cod.all_one]; rw [List.take_of_length_le (by rw [c.len]; omega)])
    simpa using this
  obtain ⟨v', H', a1, a2, a3, a4, a5, a6⟩ := h.appendL (lim := lim) (bytes := bytes) hy HX.push hn hb (by simp; omega) (by simp)
  exact ⟨v', H', a1, a2, a3, a4, by rw [a5]; simp, fun b' hb' hne => (a6 b' (by simp; omega) hne).trans (List.getElem?_append_left hb')⟩
/-- a store into an element -/
theorem OwnT.store [Inhabited α] (h : OwnT n c H v l) {lim i j : Nat} {x : V} {y : α} {L : Lo} {sz : Nat} (hn : lim ≤ n) (hi : i < l.length) (hs : Vm.stor x = true) (hsz : (cellsV x).length = sz) (hj : j + sz ≤ k)
    (hy : c.cells y = splice (c.cells (l.getD i default)) j (cellsV x)) : vstore lim L H (eptf k v i j) x sz = some (L, setH H v (c.all (l.set i y))) := by
  cases h with
  | nil => simp at hi
  | row h1 h2 =>
    rename_i b
    have hm : (i + 1) * k ≤ l.length * k := Nat.mul_le_mul_right _ hi
    rw [Nat.add_mul, Nat.one_mul] at hm
    have e : splice (c.all l) (i * k + j) (cellsV x) = c.all (l.set i y) := by
      have e1 : l.set i y = l.take i ++ y :: l.drop (i + 1) := by rw [List.set_eq_take_append_cons_drop, if_pos hi]
      have e2 : l = l.take i ++ l.getD i default :: l.drop (i + 1) := by
        conv => lhs; rw [← List.take_append_drop i l, List.drop_eq_getElem_cons hi]
        simp [List.getD_eq_getElem?_getD, hi]
      rw [e1, Cod.all_append, Cod.all_cons, hy]
      conv => lhs; rw [e2, Cod.all_append, Cod.all_cons]
      have hl1 : (c.all (l.take i)).length = i * k := by rw [Cod.all_len, List.length_take, Nat.min_eq_left (by omega)]
      have hl2 := c.len (l.getD i default)
      simp only [splice, List.take_append, List.drop_append, hl1, List.append_assoc, hsz, hl2, List.length_append]
      rw [List.take_of_length_le (l := c.all (l.take i)) (by omega), List.drop_of_length_le (l := c.all (l.take i)) (by omega)]
      have q1 : i * k + j - i * k = j := by omega
      have q2 : i * k + j + sz - i * k = j + sz := by omega
      have q3 : j - k = 0 := by omega
      have q4 : j + sz - k = 0 := by omega
      simp [q1, q2, q3, q4]
    simp only [vstore, eptf, hs, hsz, if_true, vstoreH]
    rw [if_pos (by omega), h2]
    simp only [Nat.zero_add]
    rw [if_pos (by rw [Cod.all_len]; omega), e]
    simp [setH]
theorem OwnT.put (h : OwnT n c H v l) {l' : List α} (hl : l'.length = l.length) : OwnT n c (setH H v (c.all l')) v l' := by
  cases h with
  | nil => have : l' = [] := List.eq_nil_of_length_eq_zero (by simpa using hl)
           subst this; exact .nil
  | row h1 h3 =>
    rename_i b
    have hlt := (List.getElem?_eq_some_iff.1 h3).1
    rw [← hl]
    exact .row h1 (by simp [setH, hlt])
theorem OwnT.setLen (h : OwnT n c H v l) {cs : List V} : (setH H v cs).length = H.length := by
  cases h <;> simp [setH]
theorem OwnT.setOld (h : OwnT n c H v l) {cs : List V} {b : Nat} (hb : b < n) : (setH H v cs)[b]? = H[b]? := by
  cases h with
  | nil => rfl
  | row h1 h3 => simp only [setH]; rw [List.getElem?_set_ne (by omega)]
theorem OwnT.setX {H0 : Hp} (hx : HX H0 H) (h : OwnT n c H v l) (hn : H0.length ≤ n) {cs : List V} : HX H0 (setH H v cs) :=
  HX.of (by rw [h.setLen]; exact hx.len) fun b hb => by rw [h.setOld (by omega), hx.same hb]
theorem OwnT.new {l : List α} (hn : n ≤ H.length) : OwnT n c (H ++ [.row (c.all l) true]) (.sl H.length 0 l.length k) l := .row hn List.getElem?_concat_length

/-- lists of arguments -/
theorem lst_of {ts : List CT} {d : CD} (hk : ts.length = k) (P : α → Prop) (dec : ∀ vs ds, RepTs H ts vs ds → ∃ a, vs = c.cells a ∧ P a) (h : RepT H (.sl ts) v d) : ∃ l : List α, LstV c H v l ∧ l.length ≤ maxLen ∧ ∀ x ∈ l, P x := by
  cases h with
  | nil => exact ⟨[], .nil, by simp, by simp⟩
  | empty => exact ⟨[], .empty, by simp, by simp⟩
  | sl h1 h2 h3 h4 h5 =>
    rename_i b cs own l
    rw [hk] at h2 h4 h5 ⊢
    have key : ∀ m (cs : List V) (l : List (List CD)), l.length = m → cs.length = l.length * k → (∀ i, i < l.length → (l.getD i []).length = k) →
        (∀ i j, i < l.length → j < k → RepT H (ts.getD j default) (cs.getD (i * k + j) dv) ((l.getD i []).getD j default)) → ∃ asL : List α, asL.length = l.length ∧ cs = c.all asL ∧ ∀ x ∈ asL, P x := by
      intro m
      induction m with
      | zero =>
        intro cs l hl hc _ _
        have : l = [] := List.eq_nil_of_length_eq_zero hl
        subst this
        have : cs = [] := List.eq_nil_of_length_eq_zero (by simpa using hc)
        subst this
        exact ⟨[], rfl, rfl, by simp⟩
      | succ m ih =>
        intro cs l hl hc hd hr
        match l, hl with
        | d :: l, hl =>
          have hc' : cs.length = l.length * k + k := by rw [hc, List.length_cons, Nat.add_mul, Nat.one_mul]
          obtain ⟨asL, e1, e2, e3⟩ := ih (cs.drop k) l (by simpa using hl) (by rw [List.length_drop]; omega) (fun i hi => hd (i + 1) (by simpa using hi)) (fun i j hi hj => by
            have := hr (i + 1) j (by simpa using hi) hj
            have e : (i + 1) * k + j = k + (i * k + j) := by rw [Nat.add_mul]; omega
            rw [e] at this
            simpa [List.getD_eq_getElem?_getD, List.getElem?_drop] using this)
          obtain ⟨a, e4, e5⟩ := dec (cs.take k) d ⟨by rw [List.length_take]; omega, by rw [hk]; exact hd 0 (by simp), fun j hj => by
            have := hr 0 j (by simp) (by omega)
            rw [Nat.zero_mul, Nat.zero_add] at this
            have e : (cs.take k).getD j dv = cs.getD j dv := by simp only [List.getD_eq_getElem?_getD]; rw [List.getElem?_take_of_lt (by omega)]
            rw [e]
            exact this⟩
          refine ⟨a :: asL, by simp [e1], ?_, ?_⟩
          · rw [Cod.all_cons, ← e4, ← e2, List.take_append_drop]
          · intro x hx
            rcases List.mem_cons.1 hx with rfl | hx
            · exact e5
            · exact e3 x hx
    obtain ⟨asL, e1, e2, e3⟩ := key l.length cs l rfl h2 h4 h5
    refine ⟨asL, ?_, by rw [e1]; exact h3, e3⟩
    have := LstV.sl (c := c) (l := asL) (off := 0) (H := H) h1 (by rw [e1, h2]; omega) (by rw [List.drop_zero, List.take_of_length_le (by rw [h2, e1]; exact Nat.le_refl _)]; exact e2)
    rwa [e1] at this
end
end Go.Proofs.YtpdnbmnnkefedaaGreatDoor.Vm
