/- Laws of knot over the machine: densities, rows, stretches, joins. -/
import Derived.Test.YtakbcmofgfjeiaaKnD
namespace Go.Proofs.Ytakbcmofgfjeiaa.Vm
open Go
set_option maxRecDepth 100000
set_option linter.unusedSimpArgs false
set_option linter.unusedVariables false
attribute [-simp] List.getD_eq_getElem?_getD

def strP (a b c d x y : Int) : Int × Int := if rightB a b c d x y then ((bef a.toNat b.toNat c.toNat d.toNat y.toNat : Nat) - (bef a.toNat b.toNat c.toNat d.toNat x.toNat : Nat), 0) else (0, 1)

section
variable {lim : Nat} {H : Hp} {K : V → Hp → Prop}

theorem right_iff {a b c d x y : Int} : rightB a b c d x y = true ↔ (dens a b = true ∧ phas c d = true) ∧ 0 ≤ x ∧ x ≤ y ∧ y ≤ 10000 := by
  simp [rightB, and_assoc]

theorem knot_Stretch {a b c d x y : Int} (ha : I64 a) (hb : I64 b) (hc : I64 c) (hd : I64 d) (hK : K (.tup [.int .i64 (strP a b c d x y).1, .int .i64 (strP a b c d x y).2]) H) : VCall tbl lim 27 [rat a b, rat c d, .int .i64 x, .int .i64 y] H K := by
  refine VCall_fn tbl_at27 rfl ?_
  have hE : rightB a b c d x y = false → K (.tup [.int .i64 0, .int .i64 1]) H := fun h => by simpa [strP, h] using hK
  simp [vf27]
  refine knot_ValidDensity ha hb ?_
  cases h1 : dens a b with
  | false => simp; exact hE (by simp [rightB, h1])
  | true =>
  simp
  refine knot_isPhase hc hd ?_
  cases h2 : phas c d with
  | false => simp; exact hE (by simp [rightB, h2])
  | true =>
  simp
  refine knot_isHole ?_
  cases h3 : hole x with
  | false =>
    simp
    refine hE (Bool.eq_false_iff.2 fun h => ?_)
    have := (right_iff.1 h).2
    have : hole x = true := by simp [hole]; omega
    simp [h3] at this
  | true =>
  simp
  refine knot_isHole ?_
  cases h4 : hole y with
  | false =>
    simp
    refine hE (Bool.eq_false_iff.2 fun h => ?_)
    have := (right_iff.1 h).2
    have : hole y = true := by simp [hole]; omega
    simp [h4] at this
  | true =>
  have hx : 0 ≤ x ∧ x ≤ 10000 := by simpa [hole] using h3
  have hy : 0 ≤ y ∧ y ≤ 10000 := by simpa [hole] using h4
  simp
  refine cond_dec (fun h5 => ?_) fun h5 => ?_
  · simp
    refine hE (Bool.eq_false_iff.2 fun h => ?_)
    have := (right_iff.1 h).2
    omega
  · have hr : rightB a b c d x y = true := right_iff.2 ⟨⟨h1, h2⟩, by omega, by omega, by omega⟩
    obtain ⟨dn, dd, pn, pd, rfl, rfl, rfl, rfl, D⟩ := DP.of h1 h2
    obtain ⟨X, rfl⟩ : ∃ N : Nat, x = N := ⟨x.toNat, by omega⟩
    obtain ⟨Y, rfl⟩ : ∃ N : Nat, y = N := ⟨y.toNat, by omega⟩
    simp only [strP, hr, if_true, Int.toNat_natCast] at hK
    simp
    refine knot_stretch (a := X) (b := Y) D (by omega) (by omega) ?_
    simp
    exact hK

theorem ref_Stretch {a b c d x y : Int} (ha : I64 a) (hb : I64 b) (hc : I64 c) (hd : I64 d) (hlim : lim ≤ H.length) (hK : ∀ H', HX H H' → K (.tup [.int .i64 (strP a b c d x y).1, .int .i64 (strP a b c d x y).2]) H') : VCall tbl lim 28 [rat a b, rat c d, .int .i64 x, .int .i64 y] H K := by
  refine VCall_fn tbl_at28 rfl ?_
  simp [vf28]
  refine ref_right ha hb hc hd ?_
  cases h : rightB a b c d x y with
  | false => have := hK H .refl; simp; simpa [strP, h] using this
  | true =>
  have hh := right_iff.1 h
  obtain ⟨dn, dd, pn, pd, rfl, rfl, rfl, rfl, D⟩ := DP.of hh.1.1 hh.1.2
  obtain ⟨X, rfl⟩ : ∃ N : Nat, x = N := ⟨x.toNat, by omega⟩
  obtain ⟨Y, rfl⟩ : ∃ N : Nat, y = N := ⟨y.toNat, by omega⟩
  simp
  refine ref_row (N := Y) D (by omega) hlim fun H1 v x1 o1 => ?_
  have hk := hK H1 x1
  simp only [strP, h, if_true, Int.toNat_natCast] at hk
  obtain ⟨u, e, s⟩ := o1.subLo (a := X) (by simp [holesL]; omega)
  simp [o1.sl.stor, e, s.stor]
  refine ref_sum s (by simp [holesL]; omega) (fun z hz => holesL_mem D (by omega) z (List.mem_of_mem_drop hz)) ?_
  rw [holes_drop (by omega)]
  simp
  exact hk

theorem law_KnotDensities {a b c d e f : Int} (hlim : lim ≤ H.length) (ha : I64 a) (hb : I64 b) (hc : I64 c) (hd : I64 d) (he : I64 e) (hf : I64 f) (hK : ∀ H', K (.bool true) H') :
    VCall tbl lim 3 [.agg [.int .i64 a, .int .i64 b, .int .i64 c, .int .i64 d, .int .i64 e, .int .i64 f]] H K := by
  refine VCall_fn tbl_at3 rfl ?_
  have r0 : rd (some 2) [.int .i64 a, .int .i64 b, .int .i64 c, .int .i64 d, .int .i64 e, .int .i64 f] 0 = some (rat a b) := rfl
  have r2 : rd (some 2) [.int .i64 a, .int .i64 b, .int .i64 c, .int .i64 d, .int .i64 e, .int .i64 f] 2 = some (rat c d) := rfl
  simp [vf3, r0, r2]
  refine knot_Hairs ha hb hc hd ?_
  simp [r0, r2]
  refine ref_Hairs ha hb hc hd hlim fun H1 x1 => ?_
  replace x1 : HX H H1 := x1
  have l1 := x1.len
  simp [r0, r2]
  refine knot_ValidDensity ha hb ?_
  simp [r0, r2]
  refine ref_ValidDensity ha hb ?_
  simp [r0, r2]
  refine law_known (Nat.le_refl _) fun H2 _ => ?_
  simp
  exact hK _

theorem law_KnotRows {a b c d e f : Int} (hlim : lim ≤ H.length) (ha : I64 a) (hb : I64 b) (hc : I64 c) (hd : I64 d) (he : I64 e) (hf : I64 f) (hK : ∀ H', K (.bool true) H') :
    VCall tbl lim 4 [.agg [.int .i64 a, .int .i64 b, .int .i64 c, .int .i64 d, .int .i64 e, .int .i64 f]] H K := by
  refine VCall_fn tbl_at4 rfl ?_
  have r0 : rd (some 2) [.int .i64 a, .int .i64 b, .int .i64 c, .int .i64 d, .int .i64 e, .int .i64 f] 0 = some (rat a b) := rfl
  have r2 : rd (some 2) [.int .i64 a, .int .i64 b, .int .i64 c, .int .i64 d, .int .i64 e, .int .i64 f] 2 = some (rat c d) := rfl
  simp [vf4, r0, r2]
  refine knot_Row ha hb hc hd hlim (fun h => ?_) fun h dn dd pn pd N e1 e2 e3 e4 e5 hN D H1 v x1 o1 => ?_
  · simp [r0, r2]
    refine ref_Row ha hb hc hd hlim (fun _ => ?_) fun h' => absurd (h.symm.trans h') (by decide)
    simp
    refine ref_SameInts .nil .nil (by simp) ?_
    simp
    refine law_known hlim fun H2 _ => ?_
    simp
    exact hK _
  · replace x1 : HX H H1 := x1
    have l1 := x1.len
    simp [r0, r2, o1.sl.stor]
    refine ref_Row ha hb hc hd (show lim ≤ H1.length by omega) (fun h' => absurd (h.symm.trans h') (by decide)) fun _ dn' dd' pn' pd' N' d1 d2 d3 d4 d5 hN' D' H2 w x2 o2 => ?_
    replace x2 : HX H1 H2 := x2
    have l2 := x2.len
    have g1 : dn' = dn := by omega
    have g2 : dd' = dd := by omega
    have g3 : pn' = pn := by omega
    have g4 : pd' = pd := by omega
    have g5 : N' = N := by omega
    subst g1 g2 g3 g4 g5
    simp [o1.sl.stor, o2.sl.stor]
    refine ref_SameInts (o1.sl.mono x2) o2.sl (by simp [holesL]; omega) ?_
    simp
    refine law_known (show lim ≤ H2.length by omega) fun H3 _ => ?_
    simp
    exact hK _
end
end Go.Proofs.Ytakbcmofgfjeiaa.Vm
