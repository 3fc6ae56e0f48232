/- Laws of knot over the machine: KnotFades. -/
import Derived.Test.YtakbcmofgfjeiaaKnQ
namespace Go.Proofs.Ytakbcmofgfjeiaa.Vm
open Go
set_option maxRecDepth 100000
set_option linter.unusedSimpArgs false
set_option linter.unusedVariables false
attribute [-simp] List.getD_eq_getElem?_getD

section
variable {lim : Nat} {H : Hp} {K : V → Hp → Prop}

theorem ref_SameRats {av bv : V} {A B C D N m : Nat} (ha : RecV 2 H av (fadL A B C D N m)) (hb : RecV 2 H bv (fadL A B C D N m)) (hm : m ≤ 1000) (hK : K (.bool true) H) : VCall tbl lim 35 [av, bv] H K := by
  refine VCall_fn tbl_at35 rfl ?_
  have la := ha.len
  have lb := hb.len
  rw [fadL_len] at la lb
  simp [vf35, la, lb]
  refine wLoop_up m (fun i fr L H' => (fr 0 = av ∧ fr 1 = bv ∧ fr 5 = .int .i64 i) ∧ L = [] ∧ H' = H) ⟨by simp, rfl, rfl⟩ ?_
  rintro i hi fr L H' ⟨⟨f0, f1, f5⟩, rfl, rfl⟩
  simp [f0, f1, f5, la]
  refine cond_dec (fun ht => ?_) fun hf => ?_
  · have a1 := ha.addr (i := (i : Int)) (by rw [fadL_len]; omega)
    have b1 := hb.addr (i := (i : Int)) (by rw [fadL_len]; omega)
    simp only [Int.toNat_natCast] at a1 b1
    have a2 := fun L => ha.load (i := i) (L := L) (by rw [fadL_len]; omega)
    have b2 := fun L => hb.load (i := i) (L := L) (by rw [fadL_len]; omega)
    rw [fadL_get (by omega)] at a2 b2
    simp only [frat] at a2 b2
    simp (disch := omega) [f0, f1, f5, a1, b1, a2, b2, veqA_2, wrap_i64]
    omega
  · simp
    exact hK

theorem law_KnotFades {a b c d n : Int} (hlim : lim ≤ H.length) (ha : I64 a) (hb : I64 b) (hc : I64 c) (hd : I64 d) (hn : I64 n) (hK : ∀ H', K (.bool true) H') :
    VCall tbl lim 10 [.agg [.int .i64 a, .int .i64 b], .agg [.int .i64 c, .int .i64 d], .int .i64 n] H K := by
  refine VCall_fn tbl_at10 rfl ?_
  simp [vf10]
  refine knot_Fade ha hb hc hd hlim (fun h => ?_) (fun h A B C D N e1 e2 e3 e4 e5 F hbad H1 x1 => ?_) fun h A B C D N e1 e2 e3 e4 e5 F hbad H1 v x1 o1 => ?_
  · simp
    refine ref_Fade ha hb hc hd hlim (fun h' => ?_) (fun h' => absurd (h.symm.trans h') (by decide)) fun h' => absurd (h.symm.trans h') (by decide)
    simp
    refine ref_SameRats (A := 0) (B := 0) (C := 0) (D := 0) (N := 0) (m := 0) .nil .nil (by omega) ?_
    simp
    refine law_known hlim fun H2 _ => ?_
    simp
    exact hK _
  · replace x1 : HX H H1 := x1
    have l1 := x1.len
    simp
    refine ref_Fade ha hb hc hd (show lim ≤ H1.length by omega) (fun h' => absurd (h.symm.trans h') (by decide)) (fun h' A' B' C' D' N' g1 g2 g3 g4 g5 F' hbad' H2 x2 => ?_) fun h' A' B' C' D' N' g1 g2 g3 g4 g5 F' hbad' => ?_
    · replace x2 : HX H1 H2 := x2
      have l2 := x2.len
      simp
      refine ref_SameRats (A := 0) (B := 0) (C := 0) (D := 0) (N := 0) (m := 0) .nil .nil (by omega) ?_
      simp
      refine law_known (show lim ≤ H2.length by omega) fun H3 _ => ?_
      simp
      exact hK _
    · exfalso
      have q1 : A' = A := by omega
      have q2 : B' = B := by omega
      have q3 : C' = C := by omega
      have q4 : D' = D := by omega
      have q5 : N' = N := by omega
      subst q1 q2 q3 q4 q5
      rw [hbad] at hbad'; cases hbad'
  · replace x1 : HX H H1 := x1
    have l1 := x1.len
    simp [o1.toR.stor, o1.toR.one]
    refine ref_Fade ha hb hc hd (show lim ≤ H1.length by omega) (fun h' => absurd (h.symm.trans h') (by decide)) (fun h' A' B' C' D' N' g1 g2 g3 g4 g5 F' hbad' => ?_) fun h' A' B' C' D' N' g1 g2 g3 g4 g5 F' hbad' H2 w x2 o2 => ?_
    · exfalso
      have q1 : A' = A := by omega
      have q2 : B' = B := by omega
      have q3 : C' = C := by omega
      have q4 : D' = D := by omega
      have q5 : N' = N := by omega
      subst q1 q2 q3 q4 q5
      rw [hbad] at hbad'; cases hbad'
    have q1 : A' = A := by omega
    have q2 : B' = B := by omega
    have q3 : C' = C := by omega
    have q4 : D' = D := by omega
    have q5 : N' = N := by omega
    subst q1 q2 q3 q4 q5
    replace x2 : HX H1 H2 := x2
    have l2 := x2.len
    have n1 := F.n1
    have n2 := F.n2
    simp [o1.toR.stor, o1.toR.one, o2.toR.stor, o2.toR.one]
    refine ref_SameRats (o1.toR.mono x2) o2.toR (by omega) ?_
    simp
    refine cond_dec (fun h1 => ?_) fun h1 => ?_
    · simp
      refine law_known (show lim ≤ H2.length by omega) fun H3 _ => ?_
      simp
      exact hK _
    have hr : fadB c d a b n = true := by
      have h : dens a b = true ∧ dens c d = true ∧ 1 ≤ n ∧ n ≤ 60 := by simpa [fadB] using h
      simp [fadB, h.1, h.2.1]; omega
    have hN : 2 ≤ N' := by omega
    have hbb := fBad_back hN hbad
    simp
    refine knot_Fade hc hd ha hb (show lim ≤ H2.length by omega) (fun h' => absurd (hr.symm.trans h') (by decide)) (fun h' A2 B2 C2 D2 N2 g1 g2 g3 g4 g5 F2 hbad2 => ?_) fun h' A2 B2 C2 D2 N2 g1 g2 g3 g4 g5 F2 hbad2 H3 u x3 o3 => ?_
    · exfalso
      have q1 : A2 = C' := by omega
      have q2 : B2 = D' := by omega
      have q3 : C2 = A' := by omega
      have q4 : D2 = B' := by omega
      have q5 : N2 = N' := by omega
      subst q1 q2 q3 q4 q5
      rw [hbb] at hbad2; cases hbad2
    have q1 : A2 = C' := by omega
    have q2 : B2 = D' := by omega
    have q3 : C2 = A' := by omega
    have q4 : D2 = B' := by omega
    have q5 : N2 = N' := by omega
    subst q1 q2 q3 q4 q5
    replace x3 : HX H2 H3 := x3
    have l3 := x3.len
    have lu := o3.toR.len
    rw [fadL_len] at lu
    subst e5
    simp [lu, o3.toR.stor, o3.toR.one]
    refine wLoop_up N2 (fun i fr L H' => (fr 2 = .int .i64 N2 ∧ fr 7 = v ∧ fr 11 = u ∧ fr 13 = .int .i64 i) ∧ H' = H3) ⟨by simp, rfl⟩ ?_
    rintro i hi fr L H' ⟨⟨f2, f7, f11, f13⟩, rfl⟩
    simp [f2, f7, f11, f13]
    refine cond_dec (fun ht => ?_) fun hf => ?_
    · have hv := (o1.toR.mono x2).mono x3
      have a1 := hv.addr (i := (i : Int)) (by rw [fadL_len]; omega)
      have b1 := o3.toR.addr (i := (N2 : Int) - 1 - i) (by rw [fadL_len]; omega)
      have et : ((N2 : Int) - 1 - i).toNat = N2 - 1 - i := by omega
      rw [et] at b1
      simp only [Int.toNat_natCast] at a1
      have a2 := fun L => hv.load (i := i) (L := L) (by rw [fadL_len]; omega)
      have b2 := fun L => o3.toR.load (i := N2 - 1 - i) (L := L) (by rw [fadL_len]; omega)
      rw [fadL_get (by omega)] at a2 b2
      rw [frat_back (by omega) hN] at b2
      simp only [frat] at a2 b2
      simp (disch := omega) [f2, f7, f11, f13, a1, b1, a2, b2, veqA_2, wrap_i64]
      omega
    · simp
      refine law_known (show lim ≤ H'.length by omega) fun H4 _ => ?_
      simp
      exact hK _
end
end Go.Proofs.Ytakbcmofgfjeiaa.Vm
