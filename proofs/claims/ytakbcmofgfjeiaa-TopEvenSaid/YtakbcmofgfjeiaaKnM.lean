/- Laws of knot over the machine: KnotZones. -/
import Derived.Test.YtakbcmofgfjeiaaKnL
namespace Go.Proofs.Ytakbcmofgfjeiaa.Vm
open Go
set_option maxRecDepth 100000
set_option linter.unusedSimpArgs false
set_option linter.unusedVariables false
attribute [-simp] List.getD_eq_getElem?_getD

def zhP (a0 a1 a2 a3 a4 : Int) : Int := if zB a0 a1 a2 a3 a4 then a0 * (bef a3.toNat a4.toNat 0 1 a1.toNat : Nat) else 0
def zkP (a0 a1 a2 a3 a4 : Int) : Int := if zB a0 a1 a2 a3 a4 then a0 * (kS a3.toNat a4.toNat a2.toNat a1.toNat : Nat) else 0
def zeP (a0 a1 a2 a3 a4 : Int) : Int := if zB a0 a1 a2 a3 a4 then 0 else 1
theorem ceil_step {x k : Nat} (hx : 0 < x) (hk : 1 ≤ k) : (x + k - 1) / k = 1 + ((x - k) + k - 1) / k := by
  by_cases h : k ≤ x
  · have e : x + k - 1 = (x - k + k - 1) + k := by omega
    rw [e, Nat.add_div_right _ (by omega)]; omega
  · have e : x + k - 1 = (x - 1) + k := by omega
    have e2 : x - k + k - 1 = k - 1 := by omega
    rw [e, e2, Nat.add_div_right _ (by omega), Nat.div_eq_of_lt (by omega : x - 1 < k), Nat.div_eq_of_lt (by omega : k - 1 < k)]

section
variable {lim : Nat} {H : Hp} {K : V → Hp → Prop}

theorem knot_ZoneHairs {a0 a1 a2 a3 a4 : Int} {g : Bool} (h3 : I64 a3) (h4 : I64 a4) (hK : K (.tup [.int .i64 (zhP a0 a1 a2 a3 a4), .int .i64 (zeP a0 a1 a2 a3 a4)]) H) :
    VCall tbl lim 44 [.agg [.int .i64 a0, .int .i64 a1, .int .i64 a2, .int .i64 a3, .int .i64 a4, .bool g]] H K := by
  refine VCall_fn tbl_at44 rfl ?_
  have r6 : rd (some 6) [.int .i64 a0, .int .i64 a1, .int .i64 a2, .int .i64 a3, .int .i64 a4, .bool g] 0 = some (.agg [.int .i64 a0, .int .i64 a1, .int .i64 a2, .int .i64 a3, .int .i64 a4, .bool g]) := rfl
  simp [vf44, r6]
  refine knot_add h3 h4 (fun hz => ?_) fun hz A W k dn dd e0 e1 e2 e3 e4 Z => ?_
  · have z : rd none [V.int .i64 0, .int .i64 0, .int .i64 0, .int .i64 0, .int .i64 0, .bool false, .int .i64 0, .int .i64 0] 6 = some (.int .i64 0) := rfl
    simp [splice, z]
    simpa [zhP, zeP, hz] using hK
  · subst e0 e1 e2 e3 e4
    simp only [zhP, zeP, hz, if_true, Int.toNat_natCast] at hK
    have q6 : ∀ x y : V, rd none [V.int .i64 (A : Int), .int .i64 W, .int .i64 k, .int .i64 dn, .int .i64 dd, .bool g, x, y] 6 = some x := fun _ _ => rfl
    simp [splice, q6]
    exact hK

theorem knot_ZoneKnots {a0 a1 a2 a3 a4 : Int} {g : Bool} (h3 : I64 a3) (h4 : I64 a4) (hK : K (.tup [.int .i64 (zkP a0 a1 a2 a3 a4), .int .i64 (zeP a0 a1 a2 a3 a4)]) H) :
    VCall tbl lim 46 [.agg [.int .i64 a0, .int .i64 a1, .int .i64 a2, .int .i64 a3, .int .i64 a4, .bool g]] H K := by
  refine VCall_fn tbl_at46 rfl ?_
  have r6 : rd (some 6) [.int .i64 a0, .int .i64 a1, .int .i64 a2, .int .i64 a3, .int .i64 a4, .bool g] 0 = some (.agg [.int .i64 a0, .int .i64 a1, .int .i64 a2, .int .i64 a3, .int .i64 a4, .bool g]) := rfl
  simp [vf46, r6]
  refine knot_add h3 h4 (fun hz => ?_) fun hz A W k dn dd e0 e1 e2 e3 e4 Z => ?_
  · have z : rd none [V.int .i64 0, .int .i64 0, .int .i64 0, .int .i64 0, .int .i64 0, .bool false, .int .i64 0, .int .i64 0] 7 = some (.int .i64 0) := rfl
    simp [splice, z]
    simpa [zkP, zeP, hz] using hK
  · subst e0 e1 e2 e3 e4
    simp only [zkP, zeP, hz, if_true, Int.toNat_natCast] at hK
    have q6 : ∀ x y : V, rd none [V.int .i64 (A : Int), .int .i64 W, .int .i64 k, .int .i64 dn, .int .i64 dd, .bool g, x, y] 7 = some y := fun _ _ => rfl
    simp [splice, q6]
    exact hK

theorem ref_hairs {A W k dn dd : Nat} {g : Bool} (Z : ZOk A W k dn dd) (hlim : lim ≤ H.length) (hK : ∀ H', HX H H' → K (.int .i64 ((A : Int) * (bef dn dd 0 1 W : Nat))) H') :
    VCall tbl lim 76 [.agg [.int .i64 A, .int .i64 W, .int .i64 k, .int .i64 dn, .int .i64 dd, .bool g]] H K := by
  refine VCall_fn tbl_at76 rfl ?_
  have t0 : rd none [V.int .i64 (A : Int), .int .i64 W, .int .i64 k, .int .i64 dn, .int .i64 dd, .bool g] 0 = some (.int .i64 (A : Int)) := rfl
  have t1 : rd none [V.int .i64 (A : Int), .int .i64 W, .int .i64 k, .int .i64 dn, .int .i64 dd, .bool g] 1 = some (.int .i64 (W : Int)) := rfl
  have r3 : rd (some 2) [V.int .i64 (A : Int), .int .i64 W, .int .i64 k, .int .i64 dn, .int .i64 dd, .bool g] 3 = some (rat dn dd) := rfl
  have hW := Z.w
  have hA := Z.a
  have b1 := bef_bd Z.d (h := W) (by omega)
  have m2 := mul_bd (a := (A : Int)) (b := (bef dn dd 0 1 W : Nat)) (A := 200) (B := 120001000000) (by omega) (by omega)
  have b0 : bef dn dd 0 1 0 = 0 := by simp [bef]
  simp [vf76, t0, t1, r3, splice]
  refine ref_row (pn := 0) (pd := 1) (N := W) Z.d (by omega) (Nat.le_refl _) fun H1 v x1 o1 => ?_
  simp [o1.sl.stor]
  refine ref_sum o1.sl (by simp [holesL]; omega) (fun z hz => holesL_mem Z.d (by omega) z hz) ?_
  rw [holes_sum, b0]
  simp (disch := omega) [wrap_i64]
  exact hK _ x1

theorem ref_knots {A W k dn dd : Nat} {g : Bool} (Z : ZOk A W k dn dd) (hlim : lim ≤ H.length) (hK : ∀ H', HX H H' → K (.int .i64 ((A : Int) * (kS dn dd k W : Nat))) H') :
    VCall tbl lim 77 [.agg [.int .i64 A, .int .i64 W, .int .i64 k, .int .i64 dn, .int .i64 dd, .bool g]] H K := by
  refine VCall_fn tbl_at77 rfl ?_
  have t0 : rd none [V.int .i64 (A : Int), .int .i64 W, .int .i64 k, .int .i64 dn, .int .i64 dd, .bool g] 0 = some (.int .i64 (A : Int)) := rfl
  have t1 : rd none [V.int .i64 (A : Int), .int .i64 W, .int .i64 k, .int .i64 dn, .int .i64 dd, .bool g] 1 = some (.int .i64 (W : Int)) := rfl
  have t2 : rd none [V.int .i64 (A : Int), .int .i64 W, .int .i64 k, .int .i64 dn, .int .i64 dd, .bool g] 2 = some (.int .i64 (k : Int)) := rfl
  have r3 : rd (some 2) [V.int .i64 (A : Int), .int .i64 W, .int .i64 k, .int .i64 dn, .int .i64 dd, .bool g] 3 = some (rat dn dd) := rfl
  have hW := Z.w
  have hA := Z.a
  have hk1 := Z.k1
  have hk2 := Z.k2
  simp [vf77, t0, t1, t2, r3, splice]
  refine ref_row (pn := 0) (pd := 1) (N := W) Z.d (by omega) hlim fun H1 v x1 o1 => ?_
  replace x1 : HX H H1 := x1
  have en : (holesL dn dd 0 1 W).length = W := by simp [holesL]
  have hlen := o1.sl.len
  rw [en] at hlen
  simp [o1.sl.stor]
  refine wLoop_up W (fun i fr L H' => (fr 1 = .lp 0 0 ∧ fr 3 = .int .i64 ((kS dn dd k i : Nat) : Int) ∧ fr 4 = v ∧ fr 5 = .int .i64 i) ∧
    L = [[.int .i64 A, .int .i64 W, .int .i64 k, .int .i64 dn, .int .i64 dd, .bool g]] ∧ H' = H1) ⟨by simp [kS], rfl, rfl⟩ ?_
  rintro i hi fr L H' ⟨⟨f1, f3, f4, f5⟩, rfl, rfl⟩
  simp [f1, f3, f4, f5, hlen]
  refine cond_dec (fun ht => ?_) fun hf => ?_
  · have gk := fun L => o1.sl.load (i := i) (L := L) (by omega)
    have gA := o1.sl.addr (i := (i : Int)) (by omega)
    simp only [Int.toNat_natCast] at gA
    have eg : (holesL dn dd 0 1 W).getD i 0 = inHole dn dd 0 1 i := by rw [holesL, getD_map_range (by omega)]
    rw [eg] at gk
    have m := bef_mono (dn := dn) (dd := dd) (pn := 0) (pd := 1) (show i ≤ i + 1 by omega)
    have hs := in_small (i := i) Z.d
    have ek : kS dn dd k (i + 1) = kS dn dd k i + ((bef dn dd 0 1 (i + 1) - bef dn dd 0 1 i) + k - 1) / k := rfl
    have kb := kS_bd (k := k) Z.d (i + 1)
    have eS : inHole dn dd 0 1 i = ((bef dn dd 0 1 (i + 1) - bef dn dd 0 1 i : Nat) : Int) := by simp only [inHole]; omega
    rw [eS] at gk
    generalize bef dn dd 0 1 (i + 1) - bef dn dd 0 1 i = S at *
    generalize kS dn dd k (i + 1) = C1 at *
    generalize kS dn dd k i = C0 at *
    simp [f1, f3, f4, f5, gA, gk]
    refine wLoop_m (n := S) (fun n fr L H2 => ∃ (x : Int) (c : Nat), (fr 1 = .lp 0 0 ∧ fr 3 = .int .i64 (c : Int) ∧ fr 4 = v ∧ fr 5 = .int .i64 i ∧ fr 6 = .int .i64 x) ∧
      L = [[.int .i64 A, .int .i64 W, .int .i64 k, .int .i64 dn, .int .i64 dd, .bool g]] ∧ H2 = H' ∧ n = x.toNat ∧ -6 ≤ x ∧ x ≤ 6 ∧ c + (x.toNat + k - 1) / k = C1) ⟨S, C0, by simp [f1, f3, f4, f5], rfl, rfl, by simp, by omega, by omega, by simp; omega⟩ ?_
    clear f1 f3 f4 f5
    rintro n fr L H2 ⟨x, c, ⟨f1, f3, f4, f5, f6⟩, rfl, rfl, rfl, b1, b2, hc⟩
    simp [f1, f3, f4, f5, f6]
    refine cond_dec (fun hg => ?_) fun hg => ?_
    · have st := ceil_step (x := x.toNat) (k := k) (by omega) hk1
      have e1 : (x - k).toNat = x.toNat - k := by omega
      have hcb : c ≤ C1 := by rw [← hc]; exact Nat.le_add_right _ _
      simp (disch := omega) [f1, f3, f4, f5, f6, t2, wrap_i64]
      refine ⟨(x - k).toNat, by omega, x - k, c + 1, ?_⟩
      rw [e1]
      exact ⟨by simp, rfl, by omega, by omega, by omega⟩
    · have e0 : x.toNat = 0 := by omega
      have e1 : (x.toNat + k - 1) / k = 0 := Nat.div_eq_of_lt (by omega)
      have e2 : c = C1 := by omega
      subst e2
      simp (disch := omega) [f1, f3, f4, f5, f6, wrap_i64]
      omega
  · have : i = W := by omega
    subst this
    have kb := kS_bd (k := k) Z.d i
    have m2 := mul_bd (a := (A : Int)) (b := (kS dn dd k i : Nat)) (A := 200) (B := 13000) (by omega) (by omega)
    have w1 := wrap_i64 (n := ((kS dn dd k i : Nat) : Int) * A) (by rw [Int.mul_comm]; omega) (by rw [Int.mul_comm]; omega)
    simp [f1, f3, f4, f5, t0, w1]
    rw [Int.mul_comm]
    exact hK _ x1

theorem ref_ZoneHairs {a0 a1 a2 a3 a4 : Int} {g : Bool} (h3 : I64 a3) (h4 : I64 a4) (hlim : lim ≤ H.length) (hK : ∀ H', HX H H' → K (.tup [.int .i64 (zhP a0 a1 a2 a3 a4), .int .i64 (zeP a0 a1 a2 a3 a4)]) H') :
    VCall tbl lim 45 [.agg [.int .i64 a0, .int .i64 a1, .int .i64 a2, .int .i64 a3, .int .i64 a4, .bool g]] H K := by
  refine VCall_fn tbl_at45 rfl ?_
  have r6 : rd (some 6) [.int .i64 a0, .int .i64 a1, .int .i64 a2, .int .i64 a3, .int .i64 a4, .bool g] 0 = some (.agg [.int .i64 a0, .int .i64 a1, .int .i64 a2, .int .i64 a3, .int .i64 a4, .bool g]) := rfl
  simp [vf45, r6]
  refine ref_Validate h3 h4 ?_
  cases hz : zB a0 a1 a2 a3 a4 with
  | false =>
    have := hK H .refl
    simp
    simpa [zhP, zeP, hz] using this
  | true =>
    obtain ⟨A, W, k, dn, dd, rfl, rfl, rfl, rfl, rfl, Z⟩ := zOk hz
    simp only [zhP, zeP, hz, if_true, Int.toNat_natCast] at hK
    simp [r6]
    refine ref_hairs Z hlim fun H1 x1 => ?_
    simp
    exact hK _ x1

theorem ref_ZoneKnots {a0 a1 a2 a3 a4 : Int} {g : Bool} (h3 : I64 a3) (h4 : I64 a4) (hlim : lim ≤ H.length) (hK : ∀ H', HX H H' → K (.tup [.int .i64 (zkP a0 a1 a2 a3 a4), .int .i64 (zeP a0 a1 a2 a3 a4)]) H') :
    VCall tbl lim 47 [.agg [.int .i64 a0, .int .i64 a1, .int .i64 a2, .int .i64 a3, .int .i64 a4, .bool g]] H K := by
  refine VCall_fn tbl_at47 rfl ?_
  have r6 : rd (some 6) [.int .i64 a0, .int .i64 a1, .int .i64 a2, .int .i64 a3, .int .i64 a4, .bool g] 0 = some (.agg [.int .i64 a0, .int .i64 a1, .int .i64 a2, .int .i64 a3, .int .i64 a4, .bool g]) := rfl
  simp [vf47, r6]
  refine ref_Validate h3 h4 ?_
  cases hz : zB a0 a1 a2 a3 a4 with
  | false =>
    have := hK H .refl
    simp
    simpa [zkP, zeP, hz] using this
  | true =>
    obtain ⟨A, W, k, dn, dd, rfl, rfl, rfl, rfl, rfl, Z⟩ := zOk hz
    simp only [zkP, zeP, hz, if_true, Int.toNat_natCast] at hK
    simp [r6]
    refine ref_knots Z hlim fun H1 x1 => ?_
    simp
    exact hK _ x1

theorem law_KnotZones {a0 a1 a2 a3 a4 : Int} {g : Bool} (hlim : lim ≤ H.length) (h0 : I64 a0) (h1 : I64 a1) (h2 : I64 a2) (h3 : I64 a3) (h4 : I64 a4) (hK : ∀ H', K (.bool true) H') :
    VCall tbl lim 15 [.agg [.int .i64 a0, .int .i64 a1, .int .i64 a2, .int .i64 a3, .int .i64 a4, .bool g]] H K := by
  refine VCall_fn tbl_at15 rfl ?_
  have r6 : rd (some 6) [.int .i64 a0, .int .i64 a1, .int .i64 a2, .int .i64 a3, .int .i64 a4, .bool g] 0 = some (.agg [.int .i64 a0, .int .i64 a1, .int .i64 a2, .int .i64 a3, .int .i64 a4, .bool g]) := rfl
  simp [vf15, r6]
  refine knot_ZoneHairs h3 h4 ?_
  simp [r6]
  refine ref_ZoneHairs h3 h4 hlim fun H1 x1 => ?_
  replace x1 : HX H H1 := x1
  have l1 := x1.len
  simp [r6]
  refine knot_ZoneKnots h3 h4 ?_
  simp [r6]
  refine ref_ZoneKnots h3 h4 (show lim ≤ H1.length by omega) fun H2 x2 => ?_
  replace x2 : HX H1 H2 := x2
  have l2 := x2.len
  simp [r6]
  refine knot_Validate h3 h4 ?_
  simp [r6]
  refine ref_Validate h3 h4 ?_
  simp
  refine law_known (Nat.le_refl _) fun H3 _ => ?_
  simp
  exact hK _
end
end Go.Proofs.Ytakbcmofgfjeiaa.Vm
