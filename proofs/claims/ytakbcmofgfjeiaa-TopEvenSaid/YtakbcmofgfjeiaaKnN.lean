/- Lists of records over the machine: slices whose elements are k cells. -/
import Derived.Test.YtakbcmofgfjeiaaKnG
namespace Go.Proofs.Ytakbcmofgfjeiaa.Vm
open Go
set_option maxRecDepth 100000
set_option linter.unusedSimpArgs false
set_option linter.unusedVariables false
attribute [-simp] List.getD_eq_getElem?_getD

theorem flat_len {k : Nat} : ∀ {l : List (List V)}, (∀ x ∈ l, x.length = k) → l.flatten.length = l.length * k
  | [], _ => by simp
  | x :: l, h => by
    have h1 := flat_len (l := l) fun y hy => h y (List.mem_cons_of_mem _ hy)
    have h2 := h x List.mem_cons_self
    simp only [List.flatten_cons, List.length_append, List.length_cons, h1, h2, Nat.add_mul]; omega
theorem flat_get {k : Nat} : ∀ {l : List (List V)} {i : Nat}, (∀ x ∈ l, x.length = k) → i < l.length → (l.flatten.drop (i * k)).take k = l.getD i []
  | [], i, _, hi => by simp at hi
  | x :: l, 0, h, _ => by
    have h2 := h x List.mem_cons_self
    simp [List.take_append_of_le_length (show k ≤ x.length by omega), List.take_of_length_le (show x.length ≤ k by omega), List.getD_eq_getElem?_getD]
  | x :: l, i + 1, h, hi => by
    have h2 := h x List.mem_cons_self
    have ih := flat_get (l := l) (i := i) (fun y hy => h y (List.mem_cons_of_mem _ hy)) (by simpa using hi)
    have e : (x :: l).flatten.drop ((i + 1) * k) = l.flatten.drop (i * k) := by
      rw [List.flatten_cons, Nat.add_mul, Nat.one_mul, List.drop_append, List.drop_of_length_le (by omega), List.nil_append]
      congr 1; omega
    rw [e, ih]; simp [List.getD_eq_getElem?_getD]

/-- a slice of records of k cells -/
inductive RecV (k : Nat) (H : Hp) : V → List (List V) → Prop
  | nil : RecV k H .snil []
  | row {b : Nat} {own : Bool} {l : List (List V)} : H[b]? = some (.row l.flatten own) → (∀ x ∈ l, x.length = k) → RecV k H (.sl b 0 l.length k) l
/-- one's own -/
inductive OwnR (n k : Nat) (H : Hp) : V → List (List V) → Prop
  | nil : OwnR n k H .snil []
  | row {b : Nat} {l : List (List V)} : n ≤ b → H[b]? = some (.row l.flatten true) → (∀ x ∈ l, x.length = k) → OwnR n k H (.sl b 0 l.length k) l

section
variable {k n : Nat} {H : Hp} {v : V} {l : List (List V)}
theorem RecV.len (h : RecV k H v l) : vlenS v = some (.int .i64 l.length) := by cases h <;> rfl
theorem RecV.stor (h : RecV k H v l) : stor v = true := by cases h <;> rfl
theorem RecV.one (h : RecV k H v l) : cellsV v = [v] := by cases h <;> rfl
theorem RecV.mono {H' : Hp} (hx : HX H H') (h : RecV k H v l) : RecV k H' v l := by
  cases h with
  | nil => exact .nil
  | row h1 h2 => exact .row (hx.get h1) h2
theorem RecV.addr (h : RecV k H v l) {i : Int} (hi : 0 ≤ i ∧ i < l.length) : viaddrS k v (.int .i64 i) = some (ept k v i.toNat) := by
  cases h with
  | nil => simp at hi; omega
  | row h1 h2 => rw [viaddrS_in hi]; rfl
theorem RecV.load (h : RecV k H v l) {i : Nat} (hi : i < l.length) {L : Lo} : vload (some k) L H (ept k v i) = some (.agg (l.getD i [])) := by
  cases h with
  | nil => simp at hi
  | row h1 h2 =>
    rename_i b own
    show vload (some k) L H (.ptr b (0 + i * k)) = _
    rw [Nat.zero_add, vload_ptr h1]
    have hf := flat_len h2
    have hm : (i + 1) * k ≤ l.length * k := Nat.mul_le_mul_right _ hi
    rw [Nat.add_mul] at hm
    simp only [rd]
    rw [if_pos (by omega), flat_get h2 hi]
theorem OwnR.toR (h : OwnR n k H v l) : RecV k H v l := by
  cases h with
  | nil => exact .nil
  | row h1 h2 h3 => exact .row h2 h3
theorem OwnR.append (h : OwnR n k H v l) {lim bytes : Nat} {x : List V} (hx : x.length = k) (hk : 1 ≤ k ∧ bytes ≤ 1000) (hn : lim ≤ n ∧ n ≤ H.length) (hl : l.length < 1000000) :
    ∃ v' H', vappend lim k bytes (H ++ [.row x true]) v (.sl H.length 0 1 k) = some (v', H') ∧ OwnR n k H' v' (l ++ [x]) ∧ (∀ H0, HX H0 H → H0.length ≤ n → HX H0 H') ∧ n ≤ H'.length := by
  have hc : (H ++ [Blk.row x true])[H.length]? = some (.row x true) := List.getElem?_concat_length
  have hb : (l.length + 1) * bytes ≤ 1000000 * 1000 := Nat.mul_le_mul (by omega) hk.2
  have h1b : 1 * bytes ≤ 1 * 1000 := Nat.mul_le_mul (by omega) hk.2
  have hnew : vcells k (H ++ [Blk.row x true]) (.sl H.length 0 1 k) = some x := by
    simp only [vcells, hc, if_true]
    rw [if_pos (by omega)]
    simp [List.take_of_length_le (show x.length ≤ k by omega)]
  cases h with
  | nil =>
    refine ⟨.sl (H.length + 1) 0 1 k, H ++ [Blk.row x true] ++ [Blk.row x true], ?_, ?_, fun H0 h0 _ => h0.trans (HX.push.trans HX.push), by simp; omega⟩
    · simp only [vappend, hnew, vlenS]
      simp [show bytes ≤ 140737488355328 by omega]
    · have e : H.length + 1 = (H ++ [Blk.row x true]).length := by simp
      rw [e]
      refine .row (l := [x]) (by simp; omega) ?_ (by simpa using hx)
      rw [List.getElem?_concat_length]; simp
  | row h1 h2 h3 =>
    rename_i b
    have hbl := (List.getElem?_eq_some_iff.1 h2).1
    have hf := flat_len h3
    have h2' : (H ++ [Blk.row x true])[b]? = some (.row l.flatten true) := by rw [List.getElem?_append_left hbl]; exact h2
    refine ⟨.sl (H.length + 1) 0 (l ++ [x]).length k, (H ++ [Blk.row x true]).set b .dead ++ [Blk.row (l ++ [x]).flatten true], ?_, ?_, fun H0 h0 hk0 => ?_, by simp; omega⟩
    · simp only [vappend, hnew, vlenS]
      simp [h2', hf, show lim ≤ b by omega, show (l.length + 1) * bytes ≤ 140737488355328 by omega, show l.length + 1 < 4611686018427387904 by omega]
    · refine .row (by omega) ?_ (fun y hy => ?_)
      · have e : H.length + 1 = ((H ++ [Blk.row x true]).set b .dead).length := by simp
        rw [e]; exact List.getElem?_concat_length
      · rcases List.mem_append.1 hy with h | h
        · exact h3 y h
        · rw [List.mem_singleton.1 h]; exact hx
    · obtain ⟨X, rfl⟩ := h0
      refine HX.of (by simp; omega) fun i hi => ?_
      rw [List.getElem?_append_left (by simp; omega), List.getElem?_set_ne (by omega), List.getElem?_append_left (by simp; omega), List.getElem?_append_left hi]
end
end Go.Proofs.Ytakbcmofgfjeiaa.Vm
