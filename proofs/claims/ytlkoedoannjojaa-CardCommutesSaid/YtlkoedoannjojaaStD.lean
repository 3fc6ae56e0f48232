/- Package card over the machine: putting an entry into a card. -/
import Derived.Test.YtlkoedoannjojaaStC
namespace Go.Proofs.Ytlkoedoannjojaa.Vm
open Go
set_option maxRecDepth 100000
set_option linter.unusedSimpArgs false
set_option linter.unusedVariables false
attribute [-simp] List.getD_eq_getElem?_getD
def cmpI (x y : Int) : Int := if x < y then -1 else if y < x then 1 else 0
def cfE (x y : En) : Int := if cmpI x.p y.p ≠ 0 then cmpI x.p y.p else cmpI x.s y.s
theorem cfE_le {x y : En} : leC cfE x y ↔ x.p < y.p ∨ (x.p = y.p ∧ x.s ≤ y.s) := by
  show ¬ cfE y x < 0 ↔ _
  unfold cfE cmpI
  by_cases h1 : y.p < x.p
  · simp [h1]; try omega
  · by_cases h2 : x.p < y.p
    · simp [h1, h2]
    · have e : x.p = y.p := by omega
      by_cases h3 : y.s < x.s
      · simp [h1, h2, h3]; try omega
      · by_cases h4 : x.s < y.s
        · simp [h1, h2, h3, h4]; try omega
        · simp [h1, h2, h3, h4]; try omega
theorem cfE_ordr : Ordr cfE := ⟨fun x y z h1 h2 => by rw [cfE_le] at *; omega, fun x y => by rw [cfE_le, cfE_le]; omega⟩
section
variable {lim : Nat} {H : Hp} {K : V → Hp → Prop} {v w : V} {c l : List En} {e f : En} {x y u q : Int}
theorem cmp_isNaN (hK : K (.bool false) H) : VCall tbl lim 71 [.int .i64 x] H K := by
  refine VCall_fn tbl_at71 rfl ?_
  simp [vf71]
  exact hK
theorem cmp_Compare (hK : K (.int .i64 (cmpI x y)) H) : VCall tbl lim 56 [.int .i64 x, .int .i64 y] H K := by
  refine VCall_fn tbl_at56 rfl ?_
  simp [vf56]
  refine cmp_isNaN ?_
  simp
  refine cmp_isNaN ?_
  simp
  unfold cmpI at hK
  refine cond_dec (fun h => ?_) fun h => ?_
  · rw [if_pos h] at hK
    simp
    exact hK
  · rw [if_neg h] at hK
    simp
    refine cond_dec (fun h => ?_) fun h => ?_
    · rw [if_pos h] at hK
      simp
      exact hK
    · rw [if_neg h] at hK
      simp
      exact hK
theorem cmp_Or (hs : SlV H v [u, q]) (hK : K (.int .i64 (if u ≠ 0 then u else q)) H) : VCall tbl lim 55 [v] H K := by
  refine VCall_fn tbl_at55 rfl ?_
  have a0 := hs.addr (i := 0) (by simp)
  have a1 := hs.addr (i := 1) (by simp)
  have g0 := hs.load (L := []) (i := 0) (by simp)
  have g1 := hs.load (L := []) (i := 1) (by simp)
  simp [List.getD_eq_getElem?_getD] at a0 a1 g0 g1
  by_cases h : u = 0
  · subst h
    simp only [ne_eq, not_true_eq_false, if_false] at hK
    by_cases h2 : q = 0
    · subst h2
      simp [vf55, hs.len]
      refine wLoop_round ?_
      simp [a0, g0, wrap_i64]
      refine wLoop_round ?_
      simp [a1, g1, wrap_i64]
      refine wLoop_round ?_
      simp
      exact hK
    · simp [vf55, hs.len]
      refine wLoop_round ?_
      simp [a0, g0, wrap_i64]
      refine wLoop_round ?_
      simp [a1, g1, wrap_i64, h2]
      exact hK
  · rw [if_pos h] at hK
    simp [vf55, hs.len]
    refine wLoop_round ?_
    simp [a0, g0, wrap_i64, h]
    exact hK
theorem put_cmp : CmpE 68 cfE := fun H lim x y K hK => by
  refine VCall_fn tbl_at68 rfl ?_
  simp [vf68, En.cells]
  refine cmp_Compare ?_
  simp
  refine cmp_Compare ?_
  simp [vbslice_some]
  have hs : SlV (H ++ [.row [.int .i64 (cmpI x.p y.p), .int .i64 (cmpI x.s y.s)] true]) (.sl H.length 0 2 1) [cmpI x.p y.p, cmpI x.s y.s] := SlV.lit (l := [cmpI x.p y.p, cmpI x.s y.s]) (by rw [List.getElem?_concat_length]; rfl) rfl
  refine cmp_Or hs ?_
  have hK := hK _ (HX.push (x := .row [.int .i64 (cmpI x.p y.p), .int .i64 (cmpI x.s y.s)] true))
  unfold cfE at hK
  simp
  simpa using hK
theorem clone_ens (hv : LstV enC H v c) (hlim : lim ≤ H.length) (hl : c.length ≤ 1000) (hK : ∀ H' v', HX H H' → OwnT H.length enC H' v' c → K v' H') : VCall tbl lim 66 [v] H K := by
  refine VCall_fn tbl_at66 rfl ?_
  have hv2 := hv.mono (H' := H ++ [.row [] true]) HX.push
  have key : ∃ v' H', vappend lim 6 56 (H ++ [.row [] true]) (.sl H.length 0 0 6) v = some (v', H') ∧ OwnT H.length enC H' v' c ∧ HX H H' := by
    refine ⟨.sl (H.length + 1) 0 c.length 6, (H ++ [Blk.row [] true]).set H.length .dead ++ [.row (enC.all c) true], ?_, .row (by omega) ?_, ?_⟩
    · simp [vappend, hv2.cells, hv2.len, hlim, Cod.all_len, show c.length * 56 ≤ 140737488355328 by omega, show c.length < 4611686018427387904 by omega]
    · have : H.length + 1 = ((H ++ [Blk.row [] true]).set H.length .dead).length := by simp
      rw [this]; exact List.getElem?_concat_length
    · refine HX.of (by simp <;> omega) fun i hi => ?_
      rw [List.getElem?_append_left (by simp; omega), List.getElem?_set_ne (by omega), List.getElem?_append_left hi]
  obtain ⟨v', H', a1, a2, a3⟩ := key
  cases hv with
  | nil =>
    simp [vf66]
    exact hK _ _ .refl .nil
  | empty =>
    simp [vf66, a1, a2.lst.stor]
    exact hK _ _ a3 a2
  | sl h1 h2 h3 =>
    simp [vf66, a1, a2.lst.stor]
    exact hK _ _ a3 a2
theorem law_copied (hv : LstV enC H v c) (hlim : lim ≤ H.length) (hl : c.length ≤ 1000) (hK : ∀ H' v', HX H H' → OwnT H.length enC H' v' c → K v' H') : VCall tbl lim 17 [v] H K := by
  refine VCall_fn tbl_at17 rfl ?_
  have hv2 := hv.mono (H' := H ++ [.row [] true]) HX.push
  have key : ∃ v' H', vappend lim 6 56 (H ++ [.row [] true]) (.sl H.length 0 0 6) v = some (v', H') ∧ OwnT H.length enC H' v' c ∧ HX H H' := by
    refine ⟨.sl (H.length + 1) 0 c.length 6, (H ++ [Blk.row [] true]).set H.length .dead ++ [.row (enC.all c) true], ?_, .row (by omega) ?_, ?_⟩
    · simp [vappend, hv2.cells, hv2.len, hlim, Cod.all_len, show c.length * 56 ≤ 140737488355328 by omega, show c.length < 4611686018427387904 by omega]
    · have : H.length + 1 = ((H ++ [Blk.row [] true]).set H.length .dead).length := by simp
      rw [this]; exact List.getElem?_concat_length
    · refine HX.of (by simp <;> omega) fun i hi => ?_
      rw [List.getElem?_append_left (by simp; omega), List.getElem?_set_ne (by omega), List.getElem?_append_left hi]
  obtain ⟨v', H', a1, a2, a3⟩ := key
  simp [vf17, a1, a2.lst.stor]
  exact hK _ _ a3 a2
/-- a card with an entry more, in its order -/
theorem card_put (hv : LstV enC H v c) (hlim : lim ≤ H.length) (hl : c.length ≤ 1000) (hK : ∀ H' v' l', HX H H' → OwnT H.length enC H' v' l' → l'.Perm (c ++ [e]) → SortR cfE 0 l'.length l' → K v' H') : VCall tbl lim 48 [v, .agg e.cells] H K := by
  refine VCall_fn tbl_at48 rfl ?_
  simp [vf48, hv.stor, En.cells]
  refine clone_ens hv (Nat.le_refl _) hl fun H1 v1 x1 o1 => ?_
  replace x1 : HX H H1 := x1
  have l1 := x1.len
  obtain ⟨v2, H2, b1, b2, b3, b4, b5, b6⟩ := o1.append (lim := lim) (bytes := 56) (x := e) (cs := [.int .i64 e.p, .int .i64 e.s, .int .i64 e.a, .int .i64 e.b, .int .i64 e.c, .str e.t]) rfl ⟨hlim, l1⟩ (by omega) (by omega)
  have x2 := b3 H x1 (Nat.le_refl _)
  have hdl : (c ++ [e]).length = c.length + 1 := by simp
  generalize hd : c ++ [e] = d at b2 hdl hK
  simp [vbslice_some, b1, b2.lst.stor]
  cases b2 with
  | nil => simp at hdl
  | row h1 h2 =>
    rename_i b
    refine stable_en h2 (by omega) put_cmp cfE_ordr (by omega) fun H3 l3 hr3 hp3 hs3 => ?_
    have hlen := hp3.len
    simp
    rw [← hlen]
    rw [← hlen] at hs3
    exact hK H3 _ l3 (HX.of (Nat.le_trans x2.len hr3.len) fun b' hb' => (hr3.oth b' (Nat.lt_of_lt_of_le hb' x2.len) (by omega)).trans (x2.same hb')) (.row (by omega) hr3.row) hp3.perm hs3
end
end Go.Proofs.Ytlkoedoannjojaa.Vm
