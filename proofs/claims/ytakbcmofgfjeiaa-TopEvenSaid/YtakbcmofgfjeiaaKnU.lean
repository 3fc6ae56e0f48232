/- Laws of knot over the machine: KnotWorks. -/
import Derived.Test.YtakbcmofgfjeiaaKnT
import Derived.Test.YtakbcmofgfjeiaaVmArg
namespace Go.Proofs.Ytakbcmofgfjeiaa.Vm
open Go
set_option maxRecDepth 100000
set_option linter.unusedSimpArgs false
set_option linter.unusedVariables false
attribute [-simp] List.getD_eq_getElem?_getD

section
variable {lim : Nat} {H : Hp} {K : V → Hp → Prop} {v : V} {l : List Zn}

theorem ZonV.own (h : ZonV H v l) {i : Nat} (hi : i < l.length) : ∃ p, vfaddr 5 (ept 6 v i) = some p ∧ ∀ L, vload none L H p = some (.bool (l.getD i default).g) :=
  ⟨_, h.lst.faddr hi, fun L => h.lst.rd1 hi (by omega)⟩

theorem zs_ok (h : zsErr l = 0) : l.length ≤ 8 ∧ ∀ i, i < l.length → (l.getD i default).ok = true := by
  unfold zsErr at h
  split at h
  · cases h
  split at h
  · rename_i h1 h2
    refine ⟨by omega, fun i hi => ?_⟩
    rw [List.all_eq_true] at h2
    exact h2 _ (by simp [List.getD_eq_getElem?_getD, hi])
  · cases h

theorem ref_work (hv : ZonV H v l) (hz : zsErr l = 0) (hlim : lim ≤ H.length) (hK : ∀ H', HX H H' → K (.int .i64 (sumF Zn.zw l)) H') : VCall tbl lim 80 [v] H K := by
  refine VCall_fn tbl_at80 rfl ?_
  obtain ⟨h8, hok⟩ := zs_ok hz
  simp [vf80]
  refine wLoop_up l.length (fun i fr L H' => (fr 0 = v ∧ fr 3 = .int .i64 (sumF Zn.zw (l.take i)) ∧ fr 4 = .int .i64 i) ∧ L = [] ∧ HX H H') ⟨by simp [sumF], rfl, .refl⟩ ?_
  rintro i hi fr L H' ⟨⟨f0, f3, f4⟩, rfl, hx⟩
  have hxl := hx.len
  have hv1 := hv.mono hx
  simp [f0, f3, f4, hv.len]
  refine cond_dec (fun ht => ?_) fun hf => ?_
  · have ha := hv1.addr (i := (i : Int)) (by omega)
    have hl := fun L => hv1.load (i := i) (L := L) (by omega)
    obtain ⟨p, ep, hp⟩ := hv1.own (i := i) (by omega)
    have s2 := sumF_snoc (f := Zn.zw) ht
    have b2 := sumF_bd zw_bd (l := l) i (by omega)
    have c3 := zk_bd (l.getD i default)
    have ho := hok i ht
    simp only [Int.toNat_natCast] at ha
    have hfa : ∀ H2, HX H' H2 → ∃ p, vfaddr 5 (ept 6 v i) = some p ∧ ∀ L, vload none L H2 p = some (.bool (l.getD i default).g) := fun H2 h2 => (hv1.mono h2).own (by omega)
    have hla : ∀ H2, HX H' H2 → ∀ L, vload (some 6) L H2 (ept 6 v i) = some (.agg (l.getD i default).cells) := fun H2 h2 L => (hv1.mono h2).load (by omega)
    generalize l.getD i default = z at *
    obtain ⟨a0, a1, a2, a3, a4, g⟩ := z
    simp only [Zn.cells] at hl hla
    have hz1 : zB a0 a1 a2 a3 a4 = true := ho
    obtain ⟨A, W, k, dn, dd, rfl, rfl, rfl, rfl, rfl, Z⟩ := zOk hz1
    have ek : Zn.zk ⟨A, W, k, dn, dd, g⟩ = (A : Int) * (kS dn dd k W : Nat) := by simp only [Zn.zk, zkP, hz1, if_true, Int.toNat_natCast]
    have ew : Zn.zw ⟨A, W, k, dn, dd, g⟩ = if g then 3 * ((A : Int) * (kS dn dd k W : Nat)) else 2 * ((A : Int) * (kS dn dd k W : Nat)) := by simp only [Zn.zw, ek]
    rw [ew] at s2
    rw [ek] at c3
    simp (disch := omega) [f0, f3, f4, ha, hl]
    refine ref_knots Z (show lim ≤ H'.length by omega) fun H1 x1 => ?_
    replace x1 : HX H' H1 := x1
    have l1 := x1.len
    obtain ⟨p1, ep1, hp1⟩ := hfa H1 x1
    have hl1 := hla H1 x1
    cases g with
    | true =>
      simp at s2 hp1
      simp (disch := omega) [f0, f3, f4, ha, wrap_i64, ep1, hp1, hl1]
      refine ref_knots Z (show lim ≤ H1.length by omega) fun H2 x2 => ?_
      replace x2 : HX H1 H2 := x2
      generalize (A : Int) * (kS dn dd k W : Nat) = KK at *
      simp (disch := omega) [f0, f3, f4, wrap_i64, s2]
      exact ⟨by omega, by omega, hx.trans (x1.trans x2)⟩
    | false =>
      simp at s2 hp1
      generalize (A : Int) * (kS dn dd k W : Nat) = KK at *
      simp (disch := omega) [f0, f3, f4, ha, wrap_i64, ep1, hp1, hl1, s2]
      exact ⟨by omega, hx.trans x1⟩
  · have : i = l.length := by omega
    subst this
    rw [List.take_length] at f3
    simp [f3]
    exact hK _ hx
end
end Go.Proofs.Ytakbcmofgfjeiaa.Vm
