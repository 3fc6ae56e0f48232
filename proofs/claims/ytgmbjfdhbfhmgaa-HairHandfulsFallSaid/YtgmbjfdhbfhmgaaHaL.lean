/- Laws of hair over the machine: breaking, comparing, drawing. -/
import Derived.Test.YtgmbjfdhbfhmgaaHaK
namespace Go.Proofs.Ytgmbjfdhbfhmgaa.Vm
open Go
set_option maxRecDepth 100000
set_option linter.unusedSimpArgs false
set_option linter.unusedVariables false
attribute [-simp] List.getD_eq_getElem?_getD

/-- what a bundle of an outcome without error has -/
theorem outP_ok {f : HF} (h : (outP f).2.2 = 0) : bigN f 24 = false := by
  simp only [outP, outE] at h
  split at h
  · simp at h
  · rename_i e; simpa using e
theorem bigN_le {f : HF} : ∀ {k : Nat}, bigN f k = false → ∀ w n, w < 2 → 1 ≤ n → n ≤ k → f w n ≤ 1000000
  | 0, _, w, n, _, h1, h2 => by omega
  | k + 1, h, w, n, hw, h1, h2 => by
    simp only [bigN, Bool.or_eq_false_iff, decide_eq_false_iff_not] at h
    by_cases e : n = k + 1
    · subst e
      rcases (show w = 0 ∨ w = 1 by omega) with rfl | rfl
      · have := h.2.1; omega
      · have := h.2.2; omega
    · exact bigN_le h.1 w n hw h1 (by omega)
theorem outP_lists {f : HF} (h : bigN f 24 = false) : outP f = (sideF f 0, sideF f 1, 0) := by simp [outP, outR, outW, outE, h]

section
variable {lim : Nat} {H : Hp} {av bv : V} {r w r' w' : List Int} {K : V → Hp → Prop}

theorem law_HairSnaps (hb : BunV H r w bv) (hlim : lim ≤ H.length) {l a n : Int} (hl' : I64 l) (ha' : I64 a) (hn' : I64 n) (hK : ∀ H', K (.bool true) H') : VCall tbl lim 9 [bv, .agg [.int .i64 l, .int .i64 a, .int .i64 n]] H K := by
  obtain ⟨hx, hy⟩ := hb
  rename_i rv wv
  have hb : BunV H r w (.agg [rv, wv]) := .mk hx hy
  refine VCall_fn tbl_at9 rfl ?_
  have r30 : rd none [V.int .i64 l, V.int .i64 a, V.int .i64 n] 0 = some (.int .i64 l) := rfl
  have r31 : rd none [V.int .i64 l, V.int .i64 a, V.int .i64 n] 1 = some (.int .i64 a) := rfl
  have r32 : rd none [V.int .i64 l, V.int .i64 a, V.int .i64 n] 2 = some (.int .i64 n) := rfl
  simp [vf9, hx.stor, hy.stor, hx.one, hy.one]
  refine law_Long hb ?_
  simp
  refine cond_bool (fun hl => ?_) fun hl => ?_
  · simp; refine law_known hlim fun H1 _ => ?_; simp; exact hK H1
  simp [hx.stor, hy.stor, r30, r31, r32]
  refine hair_Snap hb hlim hl' ha' hn' fun H1 _ x1 o1 => ?_
  have l1 := x1.len
  obtain ⟨a1, a2⟩ := o1
  simp [a1.sl.stor, a2.sl.stor, a1.sl.one, a2.sl.one, hx.stor, hy.stor, r30, r31, r32]
  refine ref01_Snap (hb.mono x1) (by omega) hl' ha' hn' fun H2 _ x2 o2 => ?_
  have l2 := x2.len
  obtain ⟨b1, b2⟩ := o2
  have t := snapP_len (r := r) (w := w) (l := l) (a := a) (n := n)
  simp [b1.sl.stor, b2.sl.stor, b1.sl.one, b2.sl.one, a1.sl.stor, a2.sl.stor]
  refine ref01_Equal (BunV.mk (a1.sl.mono x2) (a2.sl.mono x2)) (BunV.mk b1.sl b2.sl) (by omega) (by omega) ?_
  simp
  refine cond_ndec (fun he => ?_) fun he => ?_
  · simp; refine law_known (by omega) fun H3 _ => ?_; simp; exact hK H3
  have hp : errOf r w = 0 ∧ 2 ≤ l ∧ l ≤ 24 ∧ 1 ≤ a ∧ a < l ∧ 0 ≤ n ∧ n ≤ op r w 0 l.toNat + op r w 1 l.toNat ∧ snapP r w l a n = outP (snapF (op r w) l.toNat a.toNat n) := by
    unfold snapP at he ⊢
    split at he
    · rename_i e
      split at he
      · simp [errP] at he
      · rename_i h1
        split at he
        · simp [errP] at he
        · rename_i h2
          exact ⟨e, by omega, by omega, by omega, by omega, by omega, by omega, by rw [if_pos e, if_neg h1, if_neg h2]⟩
    · rename_i e; exact absurd he e
  obtain ⟨e0, c1, c2, c3, c4, c5, c6, c7⟩ := hp
  rw [c7] at he a1 a2
  have hbig := outP_ok he
  have hlists := outP_lists hbig
  have hs := snap_sums (f := op r w) (l := l.toNat) (a := a.toNat) (n := n) op_bd (by omega) c5 c6
  have hle := bigN_le hbig
  have hpos : ∀ x m, x < 2 → 1 ≤ m → m ≤ 24 → 0 ≤ snapF (op r w) l.toNat a.toNat n x m := by
    intro x m hx hm hm'
    have b0 := op_bd (r := r) (w := w) 0 l.toNat
    have b1 := op_bd (r := r) (w := w) 1 l.toNat
    have bm := op_bd (r := r) (w := w) x m
    have hT : 0 ≤ snapT (op r w) l.toNat n x ∧ snapT (op r w) l.toNat n x ≤ op r w x l.toNat := by
      rcases (show x = 0 ∨ x = 1 by omega) with rfl | rfl <;> simp [snapT] <;> omega
    simp only [snapF]
    by_cases e : m = l.toNat
    · rw [← e] at hT ⊢
      split <;> split <;> split <;> omega
    · rw [if_neg e]
      split <;> split <;> omega
  have hbd : ∀ x m, x < 2 → 1 ≤ m → m ≤ 24 → 0 ≤ snapF (op r w) l.toNat a.toNat n x m ∧ snapF (op r w) l.toNat a.toNat n x m ≤ 1000000 := fun x m h1 h2 h3 => ⟨hpos x m h1 h2 h3, hle x m h1 h2 h3⟩
  rw [hlists] at a1 a2
  have e1 := err_side hbd
  have oo : ∀ x m, x < 2 → 1 ≤ m → m ≤ 24 → op (sideF (snapF (op r w) l.toNat a.toNat n) 0) (sideF (snapF (op r w) l.toNat a.toNat n) 1) x m = snapF (op r w) l.toNat a.toNat n x m := fun x m h1 h2 h3 => op_side hbd h1 h2 h3
  have cc : aboveS (opened (sideF (snapF (op r w) l.toNat a.toNat n) 0) (sideF (snapF (op r w) l.toNat a.toNat n) 1)) 1 = cntF (op r w) + n := by
    rw [opened_mk, aboveS_mk, kA_1, abv_congr oo (Nat.le_refl _)]; exact hs.1
  have ci : inchesS (opened (sideF (snapF (op r w) l.toNat a.toNat n) 0) (sideF (snapF (op r w) l.toNat a.toNat n) 1)) = inF (op r w) := by
    rw [opened_mk, mk48_congr oo]; exact hs.2
  have cc0 : aboveS (opened r w) 1 = cntF (op r w) := by rw [opened_mk, aboveS_mk, kA_1]; rfl
  have ci0 : inchesS (opened r w) = inF (op r w) := by rw [opened_mk]; rfl
  have hc := cntF_op2 (r := r) (w := w)
  have b0 := op_bd (r := r) (w := w) 0 l.toNat
  have b1' := op_bd (r := r) (w := w) 1 l.toNat
  simp [hx.stor, hy.stor]
  refine hair_Inches (hb.mono (x1.trans x2)) (by omega) fun H3 x3 => ?_
  have l3 := x3.len
  rw [ci0, e0]
  simp [a1.sl.stor, a2.sl.stor]
  refine hair_Inches (BunV.mk (a1.sl.mono (x2.trans x3)) (a2.sl.mono (x2.trans x3))) (by omega) fun H4 x4 => ?_
  have l4 := x4.len
  rw [ci, e1]
  simp [hx.stor, hy.stor]
  refine hair_Count (hb.mono (((x1.trans x2).trans x3).trans x4)) (by omega) fun H5 x5 => ?_
  have l5 := x5.len
  rw [cc0, e0]
  simp [a1.sl.stor, a2.sl.stor]
  refine hair_Count (BunV.mk (a1.sl.mono (((x2.trans x3).trans x4).trans x5)) (a2.sl.mono (((x2.trans x3).trans x4).trans x5))) (by omega) fun H6 x6 => ?_
  have l6 := x6.len
  rw [cc, e1]
  simp (disch := omega) [r32, wrap_i64]
  refine law_known (by omega) fun H7 _ => ?_
  simp
  exact hK H7
end
end Go.Proofs.Ytgmbjfdhbfhmgaa.Vm
