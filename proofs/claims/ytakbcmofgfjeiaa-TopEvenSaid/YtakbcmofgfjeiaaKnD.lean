/- Laws of knot over the machine: densities, rows, stretches. -/
import Derived.Test.YtakbcmofgfjeiaaKnC
namespace Go.Proofs.Ytakbcmofgfjeiaa.Vm
open Go
set_option maxRecDepth 100000
set_option linter.unusedSimpArgs false
set_option linter.unusedVariables false
attribute [-simp] List.getD_eq_getElem?_getD

theorem inHole_bd {dn dd pn pd i : Nat} (D : DP dn dd pn pd) (hi : i ≤ 19999) : 0 ≤ inHole dn dd pn pd i ∧ inHole dn dd pn pd i ≤ 120001000000 := by
  have a := bef_mono (dn := dn) (dd := dd) (pn := pn) (pd := pd) (show i ≤ i + 1 by omega)
  have b := bef_bd D (h := i + 1) (by omega)
  simp only [inHole]; omega
theorem holesL_mem {dn dd pn pd n : Nat} (D : DP dn dd pn pd) (hn : n ≤ 19999) : ∀ x ∈ holesL dn dd pn pd n, -1000000000000 ≤ x ∧ x ≤ 1000000000000 := by
  intro x hx
  obtain ⟨i, hi, rfl⟩ := List.mem_map.1 hx
  have hi : i < n := by simpa using hi
  have := inHole_bd D (i := i) (by omega)
  omega
theorem holes_sum {dn dd pn pd : Nat} : ∀ n : Nat, (holesL dn dd pn pd n).sum = (bef dn dd pn pd n : Nat) - (bef dn dd pn pd 0 : Nat)
  | 0 => by simp [holesL]
  | n + 1 => by
    rw [holesL_snoc, List.sum_append, holes_sum n]; simp [inHole]; omega
theorem holes_drop {dn dd pn pd a b : Nat} (h : a ≤ b) : ((holesL dn dd pn pd b).drop a).sum = (bef dn dd pn pd b : Nat) - (bef dn dd pn pd a : Nat) := by
  have e1 := holes_sum (dn := dn) (dd := dd) (pn := pn) (pd := pd) b
  have e2 := holes_sum (dn := dn) (dd := dd) (pn := pn) (pd := pd) a
  have e3 : (holesL dn dd pn pd b).take a = holesL dn dd pn pd a := by
    simp [holesL, ← List.map_take, List.take_range, Nat.min_eq_left h]
  have e4 : (holesL dn dd pn pd b).sum = ((holesL dn dd pn pd b).take a).sum + ((holesL dn dd pn pd b).drop a).sum := by
    rw [← List.sum_append, List.take_append_drop]
  rw [e3] at e4; omega
theorem OwnV.subLo {n : Nat} {H : Hp} {v : V} {l : List Int} (h : OwnV n H v l) {a : Nat} (ha : a ≤ l.length) : ∃ u, vslS 1 v (some (.int .i64 a)) none = some u ∧ SlV H u (l.drop a) := by
  by_cases hl : l.length = 0
  · have : l = [] := List.eq_nil_of_length_eq_zero hl
    subst this
    have : a = 0 := by simpa using ha
    subst this
    cases h with
    | nil => exact ⟨.snil, by simp [vslS, vbounds, vint], .nil⟩
    | row h1 h3 =>
      have hs := (OwnV.row h1 h3).sl
      exact ⟨_, by simp [vslS, vbounds, vint]; rfl, by simpa using hs⟩
  · refine ⟨subV v a l.length, h.sl.subW ⟨ha, Nat.le_refl _⟩ (by omega) (vbounds_lo ha), ?_⟩
    have := h.sl.sub (a := a) (b := l.length) ⟨ha, Nat.le_refl _⟩
    rwa [List.take_of_length_le (by simp)] at this

section
variable {lim : Nat} {H : Hp} {K : V → Hp → Prop}

theorem law_known (hlim : lim ≤ H.length) (hK : ∀ H', HX H H' → K (.bool true) H') : VCall tbl lim 23 [] H K := by
  refine VCall_fn tbl_at23 rfl ?_
  simp [vf23]
  refine knot_Row ⟨by omega, by omega⟩ ⟨by omega, by omega⟩ ⟨by omega, by omega⟩ ⟨by omega, by omega⟩ hlim (fun h => absurd h (by decide)) fun _ dn dd pn pd N e1 e2 e3 e4 e5 hN D H1 v x1 o1 => ?_
  have : dn = 3 ∧ dd = 2 ∧ pn = 1 ∧ pd = 2 ∧ N = 4 := by omega
  obtain ⟨rfl, rfl, rfl, rfl, rfl⟩ := this
  have eL : holesL 3 2 1 2 4 = [2, 1, 2, 1] := by decide
  rw [eL] at o1
  have l1 := x1.len
  simp [splice, o1.sl.stor]
  have hz : List.drop 4 (ints (zs 4)) = [] := by simp
  simp only [hz]
  have i1 : [V.int .i64 1, V.int .i64 1, V.int .i64 2] = ints [1, 1, 2] := rfl
  have i2 : [V.int .i64 0, V.int .i64 1, V.int .i64 2, V.int .i64 2] = ints [0, 1, 2, 2] := rfl
  have i3 : [V.int .i64 2, V.int .i64 1, V.int .i64 2, V.int .i64 1] = ints [2, 1, 2, 1] := rfl
  rw [i1, i2]
  have x2 : HX H1 (H1 ++ [Blk.row (ints [1, 1, 2]) true, Blk.row (ints [0, 1, 2, 2]) true]) := ⟨_, rfl⟩
  have l2 := x2.len
  refine knot_IsSpread (ws := [1, 1, 2]) (cs := [0, 1, 2, 2]) (.lit (own := true) (by simp) rfl) (.lit (own := true) (by simp) rfl) (by omega) fun H2 x3 => ?_
  have l3 := x3.len
  have eS : isSpreadP [1, 1, 2] [0, 1, 2, 2] = (2, false, 0) := by decide +kernel
  rw [eS]
  simp [splice, o1.sl.stor]
  simp only [hz]
  rw [i3]
  have x4 : HX H2 (H2 ++ [Blk.row (ints [2, 1, 2, 1]) true]) := HX.push
  refine ref_SameInts (a := [2, 1, 2, 1]) (b := [2, 1, 2, 1]) (o1.sl.mono ((x2.trans x3).trans x4)) (.lit (own := true) List.getElem?_concat_length rfl) (by simp) ?_
  simp
  exact hK _ (((x1.trans x2).trans x3).trans x4)
end
end Go.Proofs.Ytakbcmofgfjeiaa.Vm
