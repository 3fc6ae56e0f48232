/- Lists of zones over the machine: sums. -/
import Derived.Test.YtakbcmofgfjeiaaKnS
namespace Go.Proofs.Ytakbcmofgfjeiaa.Vm
open Go
set_option maxRecDepth 100000
set_option linter.unusedSimpArgs false
set_option linter.unusedVariables false
attribute [-simp] List.getD_eq_getElem?_getD

def Zn.zh (z : Zn) : Int := zhP z.a0 z.a1 z.a2 z.a3 z.a4
def Zn.zk (z : Zn) : Int := zkP z.a0 z.a1 z.a2 z.a3 z.a4
def Zn.zw (z : Zn) : Int := if z.g then 3 * z.zk else 2 * z.zk
def sumF (f : Zn → Int) (l : List Zn) : Int := (l.map f).sum
theorem sumF_snoc {f : Zn → Int} {l : List Zn} {i : Nat} (h : i < l.length) : sumF f (l.take (i + 1)) = sumF f (l.take i) + f (l.getD i default) := by
  have e : l.take (i + 1) = l.take i ++ [l.getD i default] := by
    rw [List.take_add_one, List.getElem?_eq_getElem h]; simp [List.getD_eq_getElem?_getD, h]
  rw [sumF, e, List.map_append, List.sum_append]; simp [sumF]
theorem sumF_bd {f : Zn → Int} {M : Int} (hf : ∀ z, 0 ≤ f z ∧ f z ≤ M) {l : List Zn} : ∀ i : Nat, i ≤ l.length → 0 ≤ sumF f (l.take i) ∧ sumF f (l.take i) ≤ i * M
  | 0, _ => by simp [sumF]
  | i + 1, h => by
    have a := sumF_bd hf (l := l) i (by omega)
    have b := hf (l.getD i default)
    rw [sumF_snoc (by omega)]
    have : ((i + 1 : Nat) : Int) * M = i * M + M := by rw [Int.natCast_add, Int.add_mul]; omega
    omega
theorem zh_bd (z : Zn) : 0 ≤ z.zh ∧ z.zh ≤ 24000200000000 := by
  simp only [Zn.zh, zhP]
  split
  · rename_i h
    obtain ⟨A, W, k, dn, dd, e0, e1, e2, e3, e4, Z⟩ := zOk h
    have := Z.a
    have hW := Z.w
    have b := bef_bd Z.d (h := W) (by omega)
    rw [e0, e1, e3, e4]
    simp only [Int.toNat_natCast]
    have := mul_bd (a := (A : Int)) (b := (bef dn dd 0 1 W : Nat)) (A := 200) (B := 120001000000) (by omega) (by omega)
    omega
  · omega
theorem zk_bd (z : Zn) : 0 ≤ z.zk ∧ z.zk ≤ 2600000 := by
  simp only [Zn.zk, zkP]
  split
  · rename_i h
    obtain ⟨A, W, k, dn, dd, e0, e1, e2, e3, e4, Z⟩ := zOk h
    have := Z.a
    have hW := Z.w
    have b := kS_bd (k := k) Z.d W
    rw [e0, e1, e2, e3, e4]
    simp only [Int.toNat_natCast]
    have := mul_bd (a := (A : Int)) (b := (kS dn dd k W : Nat)) (A := 200) (B := 13000) (by omega) (by omega)
    omega
  · omega
theorem zw_bd (z : Zn) : 0 ≤ z.zw ∧ z.zw ≤ 7800000 := by
  have := zk_bd z
  simp only [Zn.zw]; split <;> omega

section
variable {lim : Nat} {H : Hp} {K : V → Hp → Prop} {v : V} {l : List Zn}

theorem knot_halves {i0 i1 i2 i3 i4 x y : Int} {g : Bool} (hy : 0 ≤ y ∧ y ≤ 2600000) (hK : K (.int .i64 (if g then 3 * y else 2 * y)) H) :
    VCall tbl lim 87 [.agg [.int .i64 i0, .int .i64 i1, .int .i64 i2, .int .i64 i3, .int .i64 i4, .bool g, .int .i64 x, .int .i64 y]] H K := by
  refine VCall_fn tbl_at87 rfl ?_
  have q5 : rd none [V.int .i64 i0, .int .i64 i1, .int .i64 i2, .int .i64 i3, .int .i64 i4, .bool g, .int .i64 x, .int .i64 y] 5 = some (.bool g) := rfl
  have q7 : rd none [V.int .i64 i0, .int .i64 i1, .int .i64 i2, .int .i64 i3, .int .i64 i4, .bool g, .int .i64 x, .int .i64 y] 7 = some (.int .i64 y) := rfl
  simp [vf87, q5, q7]
  cases g <;> simp (disch := omega) [q7, wrap_i64] <;> simpa using hK

theorem knot_addAll (hv : ZonV H v l) (hE : zsErr l ≠ 0 → K (.tup [.int .i64 0, .int .i64 0, .int .i64 (zsErr l)]) H)
    (hO : zsErr l = 0 → K (.tup [.int .i64 (sumF Zn.zh l), .int .i64 (sumF Zn.zw l), .int .i64 0]) H) : VCall tbl lim 78 [v] H K := by
  refine VCall_fn tbl_at78 rfl ?_
  simp [vf78, hv.len]
  refine cond_dec (fun h1 => ?_) fun h1 => ?_
  · have : 8 < l.length := by omega
    have e : zsErr l = 4 := by simp [zsErr, this]
    simp; rw [e] at hE; exact hE (by decide)
  have h1' : ¬ 8 < l.length := by omega
  simp [hv.len]
  refine wLoop_up l.length (fun i fr L H' => (fr 2 = .int .i64 (sumF Zn.zh (l.take i)) ∧ fr 3 = .int .i64 (sumF Zn.zw (l.take i)) ∧ fr 12 = v ∧ fr 13 = .int .i64 l.length ∧ fr 14 = .int .i64 i) ∧ H' = H ∧ (l.take i).all Zn.ok = true) ⟨by simp [sumF], rfl, by simp⟩ ?_
  rintro i hi fr X H' ⟨⟨f2, f3, f12, f13, f14⟩, rfl, hb⟩
  simp [f2, f3, f12, f13, f14]
  refine cond_dec (fun ht => ?_) fun hf => ?_
  · have ha := hv.addr (i := (i : Int)) (by omega)
    have hl := fun L => hv.load (i := i) (L := L) (by omega)
    have hq := hv.in64 (i := i) (by omega)
    have hs : (l.take (i + 1)).all Zn.ok = (l.getD i default).ok := by
      rw [List.take_add_one, List.all_append, hb, List.getElem?_eq_getElem ht]; simp [List.getD_eq_getElem?_getD, ht]
    have hm : (l.getD i default) ∈ l := by simp [List.getD_eq_getElem?_getD, ht]
    have s1 := sumF_snoc (f := Zn.zh) ht
    have s2 := sumF_snoc (f := Zn.zw) ht
    have b1 := sumF_bd zh_bd (l := l) i (by omega)
    have b2 := sumF_bd zw_bd (l := l) i (by omega)
    have c1 := zh_bd (l.getD i default)
    have c2 := zw_bd (l.getD i default)
    have c3 := zk_bd (l.getD i default)
    simp only [Int.toNat_natCast] at ha
    have hX1 : ∀ c : List V, (X ++ [c])[X.length]? = some c := fun _ => List.getElem?_concat_length
    have hX2 : ∀ c d : List V, (X ++ [c, d])[X.length + 1]? = some d := fun c d => by rw [List.getElem?_append_right (by omega)]; simp
    generalize l.getD i default = z at *
    obtain ⟨a0, a1, a2, a3, a4, g⟩ := z
    simp only [Zn.cells] at hl
    have r6 : rd (some 6) [.int .i64 a0, .int .i64 a1, .int .i64 a2, .int .i64 a3, .int .i64 a4, .bool g] 0 = some (.agg [.int .i64 a0, .int .i64 a1, .int .i64 a2, .int .i64 a3, .int .i64 a4, .bool g]) := rfl
    simp (disch := omega) [f2, f3, f12, f13, f14, ha, hl, hX1, splice, r6]
    refine knot_add hq.2.2.2.1 hq.2.2.2.2 (fun hz => ?_) fun hz A W k dn dd e0 e1 e2 e3 e4 Z => ?_
    · have e : l.all Zn.ok = false := List.all_eq_false.2 ⟨_, hm, by simp [Zn.ok, hz]⟩
      have ee : zsErr l = 1 := by simp [zsErr, h1', e]
      rw [ee] at hE
      simp (disch := omega) [f2, f3, f12, f13, f14, hX1, hX2, splice]
      exact hE (by decide)
    · subst e0 e1 e2 e3 e4
      have eh : Zn.zh ⟨A, W, k, dn, dd, g⟩ = (A : Int) * (bef dn dd 0 1 W : Nat) := by simp only [Zn.zh, zhP, hz, if_true, Int.toNat_natCast]
      have ek : Zn.zk ⟨A, W, k, dn, dd, g⟩ = (A : Int) * (kS dn dd k W : Nat) := by simp only [Zn.zk, zkP, hz, if_true, Int.toNat_natCast]
      have ew : Zn.zw ⟨A, W, k, dn, dd, g⟩ = if g then 3 * ((A : Int) * (kS dn dd k W : Nat)) else 2 * ((A : Int) * (kS dn dd k W : Nat)) := by simp only [Zn.zw, ek]
      rw [eh] at s1 c1
      rw [ew] at s2 c2
      rw [ek] at c3
      generalize (A : Int) * (bef dn dd 0 1 W : Nat) = HH at *
      generalize (A : Int) * (kS dn dd k W : Nat) = KK at *
      have q6 : rd none [V.int .i64 (A : Int), .int .i64 W, .int .i64 k, .int .i64 dn, .int .i64 dd, .bool g, .int .i64 HH, .int .i64 KK] 6 = some (.int .i64 HH) := rfl
      have q8 : rd (some 8) [V.int .i64 (A : Int), .int .i64 W, .int .i64 k, .int .i64 dn, .int .i64 dd, .bool g, .int .i64 HH, .int .i64 KK] 0 = some (.agg [V.int .i64 (A : Int), .int .i64 W, .int .i64 k, .int .i64 dn, .int .i64 dd, .bool g, .int .i64 HH, .int .i64 KK]) := rfl
      simp (disch := omega) [f2, f3, f12, f13, f14, hX1, hX2, splice, wrap_i64, q6, q8]
      refine knot_halves c3 ?_
      simp (disch := omega) [f2, f3, f12, f13, f14, hX1, hX2, splice, wrap_i64, s1, s2]
      have hs2 := hs.trans hz
      exact ⟨by omega, by simpa using hs2⟩
  · have : i = l.length := by omega
    subst this
    rw [List.take_length] at hb f2 f3
    have ee : zsErr l = 0 := by simp [zsErr, h1', hb]
    simp [f2, f3]
    exact hO ee
end
end Go.Proofs.Ytakbcmofgfjeiaa.Vm
