/- Package dye over the machine: collect. -/
import Derived.Test.YtkmcdiajcnejiaaBlC
namespace Go.Proofs.Ytkmcdiajcnejiaa.Vm
open Go
set_option maxRecDepth 100000
set_option maxHeartbeats 1000000
set_option linter.unusedSimpArgs false
set_option linter.unusedVariables false
attribute [-simp] List.getD_eq_getElem?_getD
/-- the front of a row of one's own -/
inductive PreT (n : Nat) (H : Hp) : V → List Prt → Prop
  | nil : PreT n H .snil []
  | row {b : Nat} {cs : List V} {l : List Prt} : n ≤ b → H[b]? = some (.row cs true) → l.length * 4 ≤ cs.length → cs.take (l.length * 4) = prC.all l → PreT n H (.sl b 0 l.length 4) l
theorem PreT.of {n : Nat} {H : Hp} {v : V} {l : List Prt} (h : OwnT n prC H v l) : PreT n H v l := by
  cases h with
  | nil => exact .nil
  | row h1 h2 => exact .row h1 h2 (by rw [Cod.all_len]; omega) (List.take_of_length_le (by rw [Cod.all_len]; omega))
theorem PreT.lst {n : Nat} {H : Hp} {v : V} {l : List Prt} (h : PreT n H v l) : LstV prC H v l := by
  cases h with
  | nil => exact .nil
  | row h1 h2 h3 h4 => exact .sl h2 (by omega) (by rw [List.drop_zero]; exact h4)
theorem PreT.mono {n : Nat} {H H' : Hp} {v : V} {l : List Prt} (hx : HX H H') (h : PreT n H v l) : PreT n H' v l := by
  cases h with
  | nil => exact .nil
  | row h1 h2 h3 h4 => exact .row h1 (hx.get h2) h3 h4
theorem PreT.le {n m : Nat} {H : Hp} {v : V} {l : List Prt} (hnm : n ≤ m) (h : PreT m H v l) : PreT n H v l := by
  cases h with
  | nil => exact .nil
  | row h1 h2 h3 h4 => exact .row (by omega) h2 h3 h4
theorem mg1_mem {M : List Prt} {p x : Prt} (h : x ∈ mg1 M p) : x ∈ M ∨ x = p ∨ ∃ y, y ∈ M ∧ x = addW y p.w := by
  unfold mg1 at h
  split at h
  · rename_i hc
    rcases List.mem_or_eq_of_mem_set h with h | h
    · exact Or.inl h
    · refine Or.inr (Or.inr ⟨_, ?_, h⟩)
      rw [List.getD_eq_getElem?_getD, List.getElem?_eq_getElem (by omega)]
      exact List.getElem_mem _
  · rcases List.mem_append.1 h with h | h
    · exact Or.inl h
    · exact Or.inr (Or.inl (List.mem_singleton.1 h))
theorem mgN_bd {S : List Prt} {B : Int} (hB : 0 ≤ B) (h : ∀ i, i < S.length → -B ≤ (S.getD i default).w ∧ (S.getD i default).w ≤ B) : ∀ {k : Nat}, k ≤ S.length → ∀ x, x ∈ mgN S k → -(B * k) ≤ x.w ∧ x.w ≤ B * k
  | 0, _, x, hx => by simp [mgN] at hx
  | k + 1, hk, x, hx => by
    have ih := mgN_bd hB h (k := k) (by omega)
    have hs := h k (by omega)
    rw [show ((k + 1 : Nat) : Int) = (k : Int) + 1 from rfl, Int.mul_add, Int.mul_one]
    have hp : 0 ≤ B * (k : Int) := Int.mul_nonneg hB (by omega)
    simp only [mgN] at hx
    rcases mg1_mem hx with h1 | h1 | ⟨y, h1, h2⟩
    · have := ih x h1; omega
    · rw [h1]; omega
    · have := ih y h1
      rw [h2]; simp only [addW]; omega
section
variable {lim : Nat} {H : Hp} {K : V → Hp → Prop} {v w : V} {l m : List Prt} {x y u1 u2 u3 : Int}
theorem part_zero {p : Prt} (hK : K (.bool (decide (p.w = 0))) H) : VCall tbl lim 74 [.agg [.int .i64 p.l, .int .i64 p.t, .int .i64 p.b, .int .i64 p.w]] H K := by
  refine VCall_fn tbl_at74 rfl ?_
  simp [vf74, rd4_3]
  exact hK
theorem prt_Index (hv : LstV prC H v l) (hl : l.length ≤ 1000) (h1 : ∀ i, i < l.length → (l.getD i default).w = 0 → (∀ j, j < i → (l.getD j default).w ≠ 0) → K (.int .i64 i) H) (h2 : (∀ j, j < l.length → (l.getD j default).w ≠ 0) → K (.int .i64 (-1)) H) :
    VCall tbl lim 96 [v, .func (.func 74) [] []] H K := by
  refine VCall_fn tbl_at96 rfl ?_
  simp [vf96, hv.len]
  refine wLoop_up l.length (fun i fr L H' => (fr 0 = v ∧ fr 1 = .func (.func 74) [] [] ∧ fr 7 = .int .i64 l.length ∧ fr 8 = .int .i64 i) ∧ H' = H ∧ ∀ j, j < i → (l.getD j default).w ≠ 0) ⟨by simp [hv.len], rfl, fun j hj => by omega⟩ ?_
  rintro i hi fr L H' ⟨⟨f0, f1, f7, f8⟩, e0, hz⟩
  have e0 := e0.symm
  subst e0
  simp [f0, f1, f7, f8]
  refine cond_dec (fun ht => ?_) fun hfl => ?_
  · have ht : i < l.length := by omega
    simp (disch := omega) [f0, f1, f7, f8, hv.at ht, prt_load hv, lpId_ept]
    refine part_zero ?_
    by_cases hw : (l.getD i default).w = 0
    · have := h1 i ht hw hz
      simp [hw]
      exact this
    · simp (disch := omega) [eq_false hw, f0, f1, f7, f8, wrap_i64]
      refine ⟨by omega, fun j hj => ?_⟩
      by_cases e : j = i
      · subst e; exact hw
      · exact hz j (by omega)
  · have : i = l.length := by omega
    subst this
    have := h2 hz
    simp
    exact this
theorem filter_all (h : ∀ j, j < l.length → (l.getD j default).w ≠ 0) : l.filter nzP = l := by
  refine List.filter_eq_self.2 fun p hp => ?_
  obtain ⟨i, hi, e⟩ := List.mem_iff_getElem.1 hp
  have := h i hi
  rw [List.getD_eq_getElem?_getD, List.getElem?_eq_getElem hi] at this
  simp only [Option.getD_some, e] at this
  simp [nzP, this]
theorem getD_takeX {n k : Nat} (h : k < n) : (l.take n).getD k default = l.getD k default := by
  simp only [List.getD_eq_getElem?_getD, List.getElem?_take, if_pos h]
theorem take_snocP {j : Nat} (hj : j < l.length) : l.take (j + 1) = l.take j ++ [l.getD j default] := by
  rw [List.take_add_one, List.getElem?_eq_getElem hj, List.getD_eq_getElem?_getD, List.getElem?_eq_getElem hj]; rfl
theorem set_same {α : Type} : ∀ {H : List α} {b : Nat} {x : α}, H[b]? = some x → H.set b x = H
  | [], _, _, h => by simp at h
  | y :: H, 0, x, h => by simp at h; simp [h]
  | y :: H, b + 1, x, h => by simp at h; simp [set_same h]
def zero4 : List V := [.int .i64 0, .int .i64 0, .int .i64 0, .int .i64 0]
theorem own_store {n m : Nat} {u : V} {M : List Prt} (hu : OwnT n prC H u l) (hM : M.length = l.length) (hlim : lim ≤ n) (hm : m < l.length) (q : Prt) (L : Lo) : vstore lim L (setH H u (prC.all M)) (ept 4 u m) (.agg [.int .i64 q.l, .int .i64 q.t, .int .i64 q.b, .int .i64 q.w]) 4 = some (L, setH H u (prC.all (M.set m q))) := by
  have := (hu.put hM).store (lim := lim) (i := m) (j := 0) (x := .agg q.cells) (y := q) (L := L) (sz := 4) hlim (by omega) rfl rfl (by omega) (by
    show q.cells = splice (M.getD m default).cells 0 q.cells
    simp [Prt.cells, splice])
  cases hu with
  | nil => simp at hm
  | row h1 h2 =>
    simp only [setH, List.set_set] at this ⊢
    exact this
theorem zero4_len {k : Nat} : (rowOf k zero4).length = k * 4 := by
  show (List.replicate k zero4).flatten.length = k * 4
  simp [zero4]
theorem own_clr {n m : Nat} {u : V} {M : List Prt} (hu : OwnT n prC H u l) (hM : M.length = l.length) (hlim : lim ≤ n) (hm : m < l.length) : vclr lim 4 zero4 (setH H u (prC.all M)) (subV u m l.length) = some (setH H u (splice (prC.all M) (m * 4) (rowOf (l.length - m) zero4))) := by
  cases hu with
  | nil => simp at hm
  | row h1 h2 =>
    rename_i b
    have hb := (List.getElem?_eq_some_iff.1 h2).1
    have hal : (prC.all M).length = l.length * 4 := by rw [Cod.all_len, hM]
    have key : ∀ o k, o + k * 4 ≤ l.length * 4 → vstoreH lim (H.set b (.row (prC.all M) true)) b o (rowOf k zero4) = some (H.set b (.row (splice (prC.all M) o (rowOf k zero4)) true)) := fun o k h => by
      have hg : (H.set b (.row (prC.all M) true))[b]? = some (.row (prC.all M) true) := List.getElem?_set_self hb
      have hle : o + (rowOf k zero4).length ≤ (prC.all M).length := by rw [zero4_len, hal]; exact h
      simp only [vstoreH, show lim ≤ b by omega, if_true, hg, hle, List.set_set]
    have hz : zero4.length = 4 := rfl
    by_cases h0 : m = 0
    · subst h0
      have hl0 : ¬ l.length = 0 := by omega
      have := key 0 l.length (by omega)
      simp only [subV, if_true, vclr, true_and, hz, hl0, if_false, setH, this, Nat.zero_mul, Nat.sub_zero]
    · have hml : ¬ m = l.length := by omega
      have hl0 : ¬ l.length - m = 0 := by omega
      have := key (m * 4) (l.length - m) (by omega)
      simp only [subV, h0, if_false, hml, vclr, true_and, hz, if_true, hl0, setH, this, Nat.zero_add]
theorem own_pre {n m : Nat} {u : V} {M F : List Prt} {Z : List V} (hu : OwnT n prC H u l) (hM : M.length = l.length) (hm : m < l.length) (hF : M.take m = F) : PreT n (setH H u (splice (prC.all M) (m * 4) Z)) (subV u 0 m) F := by
  cases hu with
  | nil => simp at hm
  | row h1 h2 =>
    rename_i b
    have hb := (List.getElem?_eq_some_iff.1 h2).1
    have hal : (prC.all M).length = l.length * 4 := by rw [Cod.all_len, hM]
    have hFl : F.length = m := by rw [← hF, List.length_take]; omega
    have e : subV (.sl b 0 l.length 4) 0 m = .sl b 0 F.length 4 := by rw [hFl]; simp [subV]
    rw [e]
    have htk : (prC.all M).take (m * 4) = prC.all F := by rw [Cod.all_take, hF]
    have hfl : (prC.all F).length = m * 4 := by rw [Cod.all_len, hFl]
    refine .row h1 (List.getElem?_set_self hb) ?_ ?_
    · rw [hFl]; simp only [splice, htk, List.length_append, hfl]; omega
    · rw [hFl]; simp only [splice, htk]
      rw [List.append_assoc, List.take_append_of_le_length (by omega), List.take_of_length_le (by omega)]
theorem prt_Delete {n : Nat} {u : V} (hu : OwnT n prC H u l) (hlim : lim ≤ n) (hn : n ≤ H.length) (hl : l.length ≤ 1000) (hK : ∀ H' v', H.length ≤ H'.length → (∀ b', b' < n → H'[b']? = H[b']?) → PreT n H' v' (l.filter nzP) → K v' H') :
    VCall tbl lim 73 [u, .func (.func 74) [] []] H K := by
  refine VCall_fn tbl_at73 rfl ?_
  have hst := hu.lst.stor
  simp [vf73, hst]
  refine prt_Index hu.lst hl (fun i hi hw hb => ?_) fun hall => ?_
  case refine_2 =>
    have := hK H u (Nat.le_refl _) (fun _ _ => rfl) (by rw [filter_all hall]; exact PreT.of hu)
    simp [hst]
    exact this
  have hi1 : ¬ (i : Int) = -1 := by omega
  have hf0 : (l.take i).filter nzP = l.take i := by
    have : (l.take i).length = i := by rw [List.length_take]; omega
    refine filter_all fun j hj => ?_
    rw [getD_takeX (by omega)]
    exact hb j (by omega)
  have hf1 : (l.take (i + 1)).filter nzP = l.take i := by
    rw [take_snocP hi, List.filter_append, hf0]
    have : nzP (l.getD i default) = false := by simp [nzP, hw]
    simp [this]
  simp (disch := omega) [hi1, wrap_i64]
  refine wLoop_up (l.length - (i + 1)) (fun c fr L H' => ∃ m M, (fr 0 = u ∧ fr 1 = .func (.func 74) [] [] ∧ fr 5 = .int .i64 (m : Nat) ∧ fr 6 = .int .i64 ((i + 1 + c : Nat) : Int)) ∧ H' = setH H u (prC.all M) ∧ M.length = l.length ∧ m < i + 1 + c ∧ M.take m = (l.take (i + 1 + c)).filter nzP ∧ M.drop (i + 1 + c) = l.drop (i + 1 + c)) ⟨i, l, by simp, ?_, rfl, by omega, by rw [Nat.add_zero, hf1], rfl⟩ ?_
  · cases hu with
    | nil => rfl
    | row h1 h2 =>
      simp only [setH]
      exact (set_same h2).symm
  rintro c hc fr L H' ⟨m, M, ⟨f0, f1, f5, f6⟩, e0, hM, hmj, hMt, hMd⟩
  subst e0
  have hu2 := hu.put (l' := M) hM
  have hsl := hu.setLen (cs := prC.all M)
  simp [f0, f1, f5, f6, hu2.lst.len, hM]
  by_cases ht : i + 1 + c < l.length
  · have hMd' : M.drop (i + 1 + (c + 1)) = l.drop (i + 1 + (c + 1)) := by
      have := congrArg (List.drop 1) hMd
      rw [List.drop_drop, List.drop_drop] at this
      exact this
    have htr : ((i : Int) + 1 + (c : Int) < (l.length : Int)) = True := eq_true (by omega)
    have ad := hu2.lst.at (i := i + 1 + c) (by omega)
    have ld := fun L => prt_load hu2.lst (i := i + 1 + c) (by omega) (L := L)
    have hMj : M.getD (i + 1 + c) default = l.getD (i + 1 + c) default := by
      have := congrArg (fun z => z[0]?) hMd
      simp only [List.getElem?_drop, Nat.add_zero] at this
      simp only [List.getD_eq_getElem?_getD, this]
    rw [hMj] at ld
    simp only [Int.natCast_add, Int.natCast_one] at ad
    simp (disch := omega) [f0, f1, f5, f6, htr, ad, ld, lpId_ept, lastO, lastS, splice44, iz4]
    refine part_zero ?_
    by_cases hw2 : (l.getD (i + 1 + c) default).w = 0
    · simp (disch := omega) [hw2, f0, f1, f5, f6, wrap_i64]
      refine ⟨by omega, m, ⟨rfl, by omega⟩, M, rfl, hM, by omega, ?_, ?_⟩
      · rw [show i + 1 + (c + 1) = i + 1 + c + 1 by omega, take_snocP ht, List.filter_append, hMt]
        have : nzP (l.getD (i + 1 + c) default) = false := by simp [nzP, hw2]
        simp [this]
      · exact hMd'
    · have am := hu2.lst.at (i := m) (by omega)
      have sm := own_store (lim := lim) hu hM hlim (m := m) (by omega) (l.getD (i + 1 + c) default)
      simp (disch := omega) [eq_false hw2, f0, f1, f5, f6, wrap_i64, lastO, lastS, rd4_w, am, sm, -vstore]
      refine ⟨by omega, m + 1, ⟨rfl, by omega⟩, M.set m (l.getD (i + 1 + c) default), rfl, by simpa using hM, by omega, ?_, ?_⟩
      · rw [show i + 1 + (c + 1) = i + 1 + c + 1 by omega, take_snocP ht, List.filter_append, ← hMt]
        have h1 : nzP (l.getD (i + 1 + c) default) = true := by simp [nzP, hw2]
        have h2 : [l.getD (i + 1 + c) default].filter nzP = [l.getD (i + 1 + c) default] := by simp [h1]
        rw [h2, List.take_add_one, List.getElem?_set_self (by omega), List.take_set_of_le (Nat.le_refl _)]; rfl
      · rw [List.drop_set_of_lt (by omega)]; exact hMd'
  · have htr : ((i : Int) + 1 + (c : Int) < (l.length : Int)) = False := eq_false (by omega)
    have hce : i + 1 + c = l.length := by omega
    rw [hce, List.take_length] at hMt
    have hml : m < l.length := by omega
    have s1 := hu2.lst.subW (a := m) (b := M.length) ⟨by omega, by omega⟩ (by omega) (vbounds_lo (k := .i64) (n := m) (by omega))
    rw [hM] at s1
    have s2 := hu2.lst.subW (a := 0) (b := m) ⟨by omega, by omega⟩ (by omega) (vbounds_hi (k := .i64) (n := m) (by omega))
    have cl := own_clr (lim := lim) hu hM hlim hml
    unfold zero4 at cl
    have hs3 : stor (subV u 0 m) = true := (own_pre (Z := []) hu hM hml hMt).lst.stor
    have hpre := own_pre (Z := rowOf (l.length - m) [.int .i64 0, .int .i64 0, .int .i64 0, .int .i64 0]) hu hM hml hMt
    have := hK _ _ (by rw [hu.setLen]; omega) (fun b' hb' => hu.setOld hb') hpre
    simp (disch := omega) [htr, f0, f1, f5, f6, s1, s2, cl, hs3, iz4]
    exact this
end
end Go.Proofs.Ytkmcdiajcnejiaa.Vm
