/- Laws of knot over the machine: KnotSupplies. -/
import Derived.Test.YtakbcmofgfjeiaaHaC
namespace Go.Proofs.Ytakbcmofgfjeiaa.Vm
open Go
set_option maxRecDepth 100000
set_option linter.unusedSimpArgs false
set_option linter.unusedVariables false
attribute [-simp] List.getD_eq_getElem?_getD

section
variable {lim : Nat} {H : Hp} {K : V → Hp → Prop} {v bv : V} {l : List Zn} {rg wg : List Int} {n : Int}

def supE (l : List Zn) (r w : List Int) : Int := if zsErr l = 0 then errOf r w else zsErr l
def supP (l : List Zn) (r w : List Int) (n : Int) : Bool := decide (supE l r w = 0) && decide (sumF Zn.zh l ≤ aboveS (opened r w) n)

theorem knot_Supply (hv : ZonV H v l) (hb : BunV H rg wg bv) (hlim : lim ≤ H.length) (hn : I64 n) (hK : ∀ H', HX H H' → K (.tup [.bool (supP l rg wg n), .int .i64 (supE l rg wg)]) H') : VCall tbl lim 55 [v, bv, .int .i64 n] H K := by
  refine VCall_fn tbl_at55 rfl ?_
  simp [vf55, hv.stor, hb.stor.1, hb.load]
  refine knot_addAll hv (fun hz => ?_) fun hz => ?_
  · simp [hz]
    simpa [supP, supE, hz] using hK _ .refl
  · simp [hb.stor.1, hb.load]
    refine hair_Above hb hlim hn fun H1 x1 => ?_
    replace x1 : HX H H1 := x1
    have hK := hK _ x1
    by_cases he : errOf rg wg = 0
    · simp [he]
      simpa [supP, supE, hz, he] using hK
    · simp [he]
      simpa [supP, supE, hz, he] using hK

theorem ref_Supply (hv : ZonV H v l) (hb : BunV H rg wg bv) (hlim : lim ≤ H.length) (hn : I64 n) (hK : ∀ H', HX H H' → K (.tup [.bool (supP l rg wg n), .int .i64 (supE l rg wg)]) H') : VCall tbl lim 56 [v, bv, .int .i64 n] H K := by
  refine VCall_fn tbl_at56 rfl ?_
  simp [vf56, hv.stor, hb.stor.1, hb.load]
  refine ref_zones hv ?_
  by_cases hz : zsErr l = 0
  case neg =>
    simp [hz]
    simpa [supP, supE, hz] using hK _ .refl
  obtain ⟨h8, hok⟩ := zs_ok hz
  simp [hz, hb.stor.1, hb.load]
  refine ref01_Above hb ?_
  by_cases he : errOf rg wg = 0
  case neg =>
    simp [he]
    simpa [supP, supE, hz, he] using hK _ .refl
  simp [he]
  refine wLoop_up l.length (fun i fr L H' => (fr 0 = v ∧ fr 9 = .int .i64 (aboveS (opened rg wg) n) ∧ fr 10 = .int .i64 (sumF Zn.zh (l.take i)) ∧ fr 11 = .int .i64 i) ∧ HX H H') ⟨by simp [sumF], .refl⟩ ?_
  rintro i hi fr L H' ⟨⟨f0, f9, f10, f11⟩, hx⟩
  have hxl := hx.len
  have hv1 := hv.mono hx
  simp [f0, f9, f10, f11, hv.len]
  refine cond_dec (fun ht => ?_) fun hf => ?_
  · have s2 := sumF_snoc (f := Zn.zh) ht
    have b2 := sumF_bd zh_bd (l := l) i (by omega)
    have c3 := zh_bd (l.getD i default)
    have ho := hok i ht
    have hl := fun L => hv1.load (i := i) (L := L) (by omega)
    have ha := hv1.lst.at (i := i) (by omega)
    generalize l.getD i default = z at *
    obtain ⟨a0, a1, a2, a3, a4, g⟩ := z
    simp only [Zn.cells] at hl
    have hz1 : zB a0 a1 a2 a3 a4 = true := ho
    obtain ⟨A, W, k, dn, dd, rfl, rfl, rfl, rfl, rfl, Z⟩ := zOk hz1
    have eh : Zn.zh ⟨A, W, k, dn, dd, g⟩ = (A : Int) * (bef dn dd 0 1 W : Nat) := by simp only [Zn.zh, zhP, hz1, if_true, Int.toNat_natCast]
    rw [eh] at s2 c3
    simp [f0, f9, f10, f11, ha, hl]
    refine ref_hairs Z (show lim ≤ H'.length by omega) fun H1 x1 => ?_
    replace x1 : HX H' H1 := x1
    generalize (A : Int) * (bef dn dd 0 1 W : Nat) = HH at *
    simp (disch := omega) [f0, f9, f10, f11, wrap_i64, s2]
    exact ⟨by omega, hx.trans x1⟩
  · have : i = l.length := by omega
    subst this
    rw [List.take_length] at f10
    simp [f9, f10]
    simpa [supP, supE, hz, he] using hK _ hx

theorem law_KnotSupplies (hv : ZonV H v l) (hb : BunV H rg wg bv) (hlim : lim ≤ H.length) (hn : I64 n) (hK : ∀ H', K (.bool true) H') : VCall tbl lim 17 [v, bv, .int .i64 n] H K := by
  refine VCall_fn tbl_at17 rfl ?_
  obtain ⟨r1, w1⟩ := hb
  rename_i rv wv
  by_cases h1 : 50 < l.length
  · have h1' : 50 < (l.length : Int) := by omega
    simp [vf17, hv.len, h1', r1.stor, w1.stor, r1.one, w1.one, rdN, rdS]
    refine law_known hlim fun H1 _ => ?_
    simp; exact hK _
  have h1' : ¬ 50 < (l.length : Int) := by omega
  by_cases h2 : 100 < rg.length
  · have h2' : 100 < (rg.length : Int) := by omega
    simp [vf17, hv.len, h1', r1.stor, w1.stor, r1.one, w1.one, rdN, rdS, r1.len, h2']
    refine law_known hlim fun H1 _ => ?_
    simp; exact hK _
  have h2' : ¬ 100 < (rg.length : Int) := by omega
  by_cases h3 : 100 < wg.length
  · have h3' : 100 < (wg.length : Int) := by omega
    simp [vf17, hv.len, h1', r1.stor, w1.stor, r1.one, w1.one, rdN, rdS, r1.len, h2', w1.len, h3']
    refine law_known hlim fun H1 _ => ?_
    simp; exact hK _
  have h3' : ¬ 100 < (wg.length : Int) := by omega
  simp [vf17, hv.len, h1', r1.stor, w1.stor, r1.one, w1.one, rdN, rdS, r1.len, h2', w1.len, h3']
  refine ref01_Copy (.mk r1 w1) hlim (by omega) (by omega) fun H1 cv x1 o1 => ?_
  replace x1 : HX H H1 := x1
  have l1 := x1.len
  obtain ⟨o2, o3⟩ := o1
  rename_i rv2 wv2
  have e2 : splice [V.snil, V.snil] 0 [rv2, wv2] = [rv2, wv2] := by simp [splice]
  simp [o2.sl.stor, o2.sl.one, o3.sl.stor, o3.sl.one, hv.stor, rdN, rdS, e2]
  refine knot_Supply (hv.mono x1) (.mk o2.sl o3.sl) (by omega) hn fun H2 x2 => ?_
  replace x2 : HX H1 H2 := x2
  have l2 := x2.len
  simp [hv.stor, r1.stor, w1.stor, rdN, rdS]
  refine ref_Supply ((hv.mono x1).mono x2) (.mk ((r1.mono x1).mono x2) ((w1.mono x1).mono x2)) (by omega) hn fun H3 x3 => ?_
  replace x3 : HX H2 H3 := x3
  have l3 := x3.len
  simp [o2.sl.stor, o3.sl.stor, rdN, rdS, r1.stor, w1.stor]
  refine ref01_Equal (.mk ((o2.sl.mono x2).mono x3) ((o3.sl.mono x2).mono x3)) (.mk (((r1.mono x1).mono x2).mono x3) (((w1.mono x1).mono x2).mono x3)) (by omega) (by omega) ?_
  simp
  refine law_known (by omega) fun H4 _ => ?_
  simp
  exact hK _
end
end Go.Proofs.Ytakbcmofgfjeiaa.Vm
