/- Words as lists of letters: matrices, crossings and ends over them. -/
import Derived.Test.YtalejadhccgckaaDoorPqG
namespace Go.Proofs.YtalejadhccgckaaDoor.Vm
open Go
set_option maxRecDepth 100000
set_option linter.unusedSimpArgs false
set_option linter.unusedVariables false
attribute [-simp] List.getD_eq_getElem?_getD

/-- the letters of a text -/
def lst (s : ByteArray) : List Nat := s.data.toList.map UInt8.toNat
theorem lst_len {s : ByteArray} : (lst s).length = s.size := by
  show (s.data.toList.map _).length = s.data.size
  simp
theorem lst_app {u v : ByteArray} : lst (u ++ v) = lst u ++ lst v := by
  simp [lst]
theorem lst_at {s : ByteArray} {i : Nat} (h : i < s.size) : (lst s)[i]? = some (chT s i) := by
  have h' : i < s.data.size := h
  simp [lst, chT, Array.getD_eq_getD_getElem?, Array.getElem?_eq_getElem h']
theorem lst_take {s : ByteArray} {n : Nat} (h : n < s.size) : (lst s).take (n + 1) = (lst s).take n ++ [chT s n] := by
  rw [List.take_add_one, lst_at h]; rfl
theorem lst_inj {u v : ByteArray} (h : lst u = lst v) : u = v := by
  refine ba_ext (by rw [← lst_len, ← lst_len, h]) fun i hi => ?_
  have h1 := lst_at hi
  have h2 := lst_at (s := v) (i := i) (by rw [← lst_len, ← h, lst_len]; exact hi)
  rw [h, h2] at h1
  exact (Option.some.inj h1).symm
theorem lst_tx {l : List Nat} (h : ∀ c ∈ l, c < 256) : lst (tx l) = l := by
  simp only [lst, tx, List.map_map]
  have : l.map (UInt8.toNat ∘ fun n => n.toUInt8) = l.map id := List.map_congr_left fun c hc => by
    have := h c hc
    simp; omega
  rw [this, List.map_id]
def matL (m : M4) (l : List Nat) : M4 := l.foldl (fun m c => m.step c) m
def cntS (n : Int) (l : List Nat) : Int := l.foldl (fun n c => if c = 97 ∨ c = 98 then n + 1 else n - 1) n
theorem matL_app {m : M4} {l k : List Nat} : matL m (l ++ k) = matL (matL m l) k := List.foldl_append
theorem cntS_app {n : Int} {l k : List Nat} : cntS n (l ++ k) = cntS (cntS n l) k := List.foldl_append
theorem mat_lst {s : ByteArray} : ∀ n, n ≤ s.size → mat (chT s) n = matL .one ((lst s).take n)
  | 0, _ => rfl
  | n + 1, h => by
    rw [lst_take h, matL_app, ← mat_lst n (by omega)]; rfl
theorem cnt_lst {s : ByteArray} : ∀ n, n ≤ s.size → cntL (chT s) n = cntS 0 ((lst s).take n)
  | 0, _ => rfl
  | n + 1, h => by
    rw [lst_take h, cntS_app, ← cnt_lst n (by omega)]; rfl
theorem mat_all {s : ByteArray} : mat (chT s) s.size = matL .one (lst s) := by
  rw [mat_lst _ (Nat.le_refl _), ← lst_len, List.take_length]
theorem cnt_all {s : ByteArray} : cntL (chT s) s.size = cntS 0 (lst s) := by
  rw [cnt_lst _ (Nat.le_refl _), ← lst_len, List.take_length]
theorem eqv_of {u v : ByteArray} (hu : vld u = true) (hv : vld v = true) (h1 : matL .one (lst u) = matL .one (lst v)) (h2 : cntS 0 (lst u) = cntS 0 (lst v)) : eqv u v = true := by
  rw [eqv_mc hu hv, mat_all, mat_all, cnt_all, cnt_all, h1, h2, Bool.and_eq_true, mEq_iff, decide_eq_true_eq]
  exact ⟨rfl, rfl⟩
def isLet (c : Nat) : Prop := c = 97 ∨ c = 65 ∨ c = 98 ∨ c = 66
def allL (l : List Nat) : Prop := ∀ c ∈ l, isLet c
theorem allL_vld {s : ByteArray} (h : vld s = true) : allL (lst s) := by
  intro c hc
  obtain ⟨i, hi, rfl⟩ := List.getElem_of_mem hc
  have h2 : i < s.size := by rw [← lst_len]; exact hi
  have := lst_at h2
  rw [List.getElem?_eq_getElem hi] at this
  rw [Option.some.inj this]
  exact vld_at h h2
/-- the opposite letter -/
def op (c : Nat) : Nat := (oppF (c : Int)).toNat
theorem op97 : op 97 = 65 := rfl
theorem op65 : op 65 = 97 := rfl
theorem op98 : op 98 = 66 := rfl
theorem op66 : op 66 = 98 := rfl
theorem op_let {c : Nat} (h : isLet c) : isLet (op c) := by
  rcases h with rfl | rfl | rfl | rfl <;> simp [op97, op65, op98, op66, isLet]
theorem op_op {c : Nat} (h : isLet c) : op (op c) = c := by
  rcases h with rfl | rfl | rfl | rfl <;> rfl
theorem step_op {m : M4} {c : Nat} (h : isLet c) : (m.step c).step (op c) = m := by
  rcases h with rfl | rfl | rfl | rfl
  · apply M4.ext' <;> simp [M4.step, op97] <;> omega
  · apply M4.ext' <;> simp [M4.step, op65] <;> omega
  · apply M4.ext' <;> simp [M4.step, op98] <;> omega
  · apply M4.ext' <;> simp [M4.step, op66] <;> omega
theorem cnt_op {n : Int} {c : Nat} (h : isLet c) : cntS n [c, op c] = n := by
  rcases h with rfl | rfl | rfl | rfl <;> simp [cntS, op97, op65, op98, op66] <;> omega
def inv (l : List Nat) : List Nat := (l.map op).reverse
theorem inv_cons {c : Nat} {l : List Nat} : inv (c :: l) = inv l ++ [op c] := by simp [inv]
theorem inv_app {l k : List Nat} : inv (l ++ k) = inv k ++ inv l := by simp [inv]
theorem matL_inv {l : List Nat} : ∀ {m : M4}, allL l → matL m (l ++ inv l) = m := by
  induction l with
  | nil => intro m _; rfl
  | cons c l ih =>
    intro m h
    have e : (c :: l) ++ inv (c :: l) = [c] ++ ((l ++ inv l) ++ [op c]) := by rw [inv_cons]; simp
    rw [e, matL_app, matL_app, ih fun d hd => h d (by simp [hd])]
    exact step_op (h c (by simp))
theorem cntS_add {l : List Nat} : ∀ {n : Int}, cntS n l = n + cntS 0 l := by
  induction l with
  | nil => intro n; simp [cntS]
  | cons c l ih =>
    intro n
    show cntS (if c = 97 ∨ c = 98 then n + 1 else n - 1) l = n + cntS (if c = 97 ∨ c = 98 then 0 + 1 else 0 - 1) l
    rw [ih, ih (n := if c = 97 ∨ c = 98 then 0 + 1 else 0 - 1)]
    split <;> omega
theorem cntS_inv {l : List Nat} : ∀ {n : Int}, allL l → cntS n (l ++ inv l) = n := by
  induction l with
  | nil => intro m _; rfl
  | cons c l ih =>
    intro m h
    have e : (c :: l) ++ inv (c :: l) = [c] ++ ((l ++ inv l) ++ [op c]) := by rw [inv_cons]; simp
    rw [e, cntS_app, cntS_app, ih fun d hd => h d (by simp [hd])]
    exact cnt_op (h c (by simp))
theorem lst_opp {s : ByteArray} (h : vld s = true) : lst (mp oppF s) = (lst s).map op := by
  apply List.ext_getElem?
  intro i
  by_cases hi : i < s.size
  · rw [lst_at (by rw [mp_size]; exact hi), List.getElem?_map, lst_at hi, (chT_opp h hi).1]; rfl
  · rw [List.getElem?_eq_none (by rw [lst_len, mp_size]; omega), List.getElem?_eq_none (by rw [List.length_map, lst_len]; omega)]
theorem lst_rv {s : ByteArray} : lst (rvB s) = (lst s).reverse := by
  simp [lst, rvB]
theorem lst_inv {s : ByteArray} (h : vld s = true) : lst (rvB (mp oppF s)) = inv (lst s) := by
  rw [lst_rv, lst_opp h]; rfl
/-- so many times -/
def pwL (l : List Nat) : Nat → List Nat
  | 0 => []
  | n + 1 => pwL l n ++ l
theorem pwL_front {l : List Nat} : ∀ {n : Nat}, pwL l (n + 1) = l ++ pwL l n
  | 0 => by simp [pwL]
  | n + 1 => by
    show pwL l (n + 1) ++ l = l ++ (pwL l n ++ l)
    rw [pwL_front (n := n), List.append_assoc]
theorem allL_pw {l : List Nat} (h : allL l) : ∀ {n : Nat}, allL (pwL l n)
  | 0 => fun c hc => absurd hc (by simp [pwL])
  | n + 1 => fun c hc => by
    rcases List.mem_append.1 hc with hc | hc
    · exact allL_pw h c hc
    · exact h c hc
theorem inv_pw {l : List Nat} : ∀ {n : Nat}, pwL (inv l) n = inv (pwL l n)
  | 0 => rfl
  | n + 1 => by
    show pwL (inv l) (n + 1) = inv (pwL l n ++ l)
    rw [pwL_front, inv_pw, inv_app]
theorem lst_rep {s : ByteArray} : ∀ {n : Nat}, lst (rep s n) = pwL (lst s) n
  | 0 => by rw [rep_zero]; rfl
  | n + 1 => by rw [← rep_succ, lst_app, lst_rep]; rfl
end Go.Proofs.YtalejadhccgckaaDoor.Vm
