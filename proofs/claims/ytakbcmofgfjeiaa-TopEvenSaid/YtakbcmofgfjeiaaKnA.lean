/- Package knot over the machine: densities, rows, spread rows that are looked at. -/
import Derived.Test.YtakbcmofgfjeiaaVmTab
import Derived.Test.YtakbcmofgfjeiaaVmLib2
namespace Go.Proofs.Ytakbcmofgfjeiaa.Vm
open Go
set_option maxRecDepth 100000
set_option linter.unusedSimpArgs false
set_option linter.unusedVariables false
attribute [-simp] List.getD_eq_getElem?_getD

def gcd1 (a b : Int) : Bool := decide (Nat.gcd a.toNat b.toNat = 1)
def frac (n d : Int) : Bool := decide (0 ≤ n) && (decide (1 ≤ d) && (decide (d ≤ 1000) && gcd1 n d))
def dens (n d : Int) : Bool := frac n d && decide (n ≤ 6 * d)
def phas (n d : Int) : Bool := frac n d && decide (n < d)
abbrev rat (n d : Int) : V := .agg [.int .i64 n, .int .i64 d]

section
variable {lim : Nat} {H : Hp} {K : V → Hp → Prop}

theorem knot_gcd {a b : Nat} (ha : a ≤ 9223372036854775807) (hb : b ≤ 9223372036854775807) (hK : K (.int .i64 (Nat.gcd a b : Nat)) H) : VCall tbl lim 72 [.int .i64 a, .int .i64 b] H K := by
  refine VCall_fn tbl_at72 rfl ?_
  simp [vf72]
  refine wLoop_m (n := b) (fun n fr L H' => ∃ x y : Nat, (fr 0 = .int .i64 x ∧ fr 1 = .int .i64 y) ∧ L = [] ∧ H' = H ∧ Nat.gcd x y = Nat.gcd a b ∧ n = y) ⟨a, b, by simp, rfl, rfl, rfl, rfl⟩ ?_
  rintro n fr L H' ⟨x, y, ⟨f0, f1⟩, rfl, rfl, hg, rfl⟩
  simp [f0, f1]
  refine cond_ndec (fun hz => ?_) fun hz => ?_
  · have hy0 : n ≠ 0 := by intro h; subst h; exact hz rfl
    obtain ⟨z, hzd⟩ : ∃ z, z = x % n := ⟨_, rfl⟩
    have hr : (x : Int).tmod n = (z : Nat) := by rw [tmod_nat, hzd]
    have hlt : z < n := by rw [hzd]; exact Nat.mod_lt _ (by omega)
    have hg' : Nat.gcd n z = Nat.gcd a b := by rw [hzd, Nat.gcd_comm, ← Nat.gcd_rec, Nat.gcd_comm]; exact hg
    simp (disch := omega) [f0, f1, hr]
    exact ⟨z, hlt, n, ⟨rfl, rfl⟩, hg'⟩
  · have hy0 : n = 0 := by omega
    subst hy0
    rw [Nat.gcd_zero_right] at hg
    subst hg
    simp [f0]
    exact hK
theorem ref_divisor {a b : Nat} (ha : a ≤ 9223372036854775807) (hb : b ≤ 9223372036854775807) (hK : K (.int .i64 (Nat.gcd a b : Nat)) H) : VCall tbl lim 66 [.int .i64 a, .int .i64 b] H K := by
  refine VCall_fn tbl_at66 rfl ?_
  simp [vf66]
  refine wLoop_m (n := b) (fun n fr L H' => ∃ x y : Nat, (fr 0 = .int .i64 x ∧ fr 1 = .int .i64 y) ∧ L = [] ∧ H' = H ∧ Nat.gcd x y = Nat.gcd a b ∧ n = y) ⟨a, b, by simp, rfl, rfl, rfl, rfl⟩ ?_
  rintro n fr L H' ⟨x, y, ⟨f0, f1⟩, rfl, rfl, hg, rfl⟩
  simp [f0, f1]
  refine cond_ndec (fun hz => ?_) fun hz => ?_
  · have hy0 : n ≠ 0 := by intro h; subst h; exact hz rfl
    obtain ⟨z, hzd⟩ : ∃ z, z = x % n := ⟨_, rfl⟩
    have hr : (x : Int).tmod n = (z : Nat) := by rw [tmod_nat, hzd]
    have hlt : z < n := by rw [hzd]; exact Nat.mod_lt _ (by omega)
    have hg' : Nat.gcd n z = Nat.gcd a b := by rw [hzd, Nat.gcd_comm, ← Nat.gcd_rec, Nat.gcd_comm]; exact hg
    simp (disch := omega) [f0, f1, hr]
    exact ⟨z, hlt, n, ⟨rfl, rfl⟩, hg'⟩
  · have hy0 : n = 0 := by omega
    subst hy0
    rw [Nat.gcd_zero_right] at hg
    subst hg
    simp [f0]
    exact hK

theorem knot_isFraction {n d : Int} (hn : I64 n) (hd : I64 d) (hK : K (.bool (frac n d)) H) : VCall tbl lim 65 [rat n d] H K := by
  refine VCall_fn tbl_at65 rfl ?_
  by_cases h1 : 0 ≤ n
  · by_cases h2 : 1 ≤ d
    · by_cases h3 : d ≤ 1000
      · have hn2 := hn.2
        obtain ⟨a, rfl⟩ : ∃ a : Nat, n = a := ⟨n.toNat, by omega⟩
        obtain ⟨b, rfl⟩ : ∃ b : Nat, d = b := ⟨d.toNat, by omega⟩
        simp [vf65, h1, h2, h3]
        refine knot_gcd (by omega) (by omega) ?_
        simp
        have e : decide (((Nat.gcd a b : Nat) : Int) = 1) = frac a b := by
          simp only [frac, gcd1, Int.toNat_natCast, decide_eq_true h1, decide_eq_true h2, decide_eq_true h3, Bool.true_and]
          exact decide_eq_decide.2 (by omega)
        rw [e]; exact hK
      · simp [vf65, h1, h2, h3]
        simpa [frac, h3] using hK
    · simp [vf65, h1, h2]
      simpa [frac, h2] using hK
  · simp [vf65, h1]
    simpa [frac, h1] using hK
theorem frac_bd {n d : Int} (h : frac n d = true) : 0 ≤ n ∧ 1 ≤ d ∧ d ≤ 1000 ∧ Nat.gcd n.toNat d.toNat = 1 := by
  simpa [frac, gcd1] using h
theorem knot_ValidDensity {n d : Int} (hn : I64 n) (hd : I64 d) (hK : K (.bool (dens n d)) H) : VCall tbl lim 21 [rat n d] H K := by
  refine VCall_fn tbl_at21 rfl ?_
  simp [vf21]
  refine knot_isFraction hn hd ?_
  cases hf : frac n d with
  | false => simp; simpa [dens, hf] using hK
  | true =>
    have := frac_bd hf
    simp (disch := omega) [wrap_i64]
    simpa [dens, hf] using hK
theorem knot_isPhase {n d : Int} (hn : I64 n) (hd : I64 d) (hK : K (.bool (phas n d)) H) : VCall tbl lim 60 [rat n d] H K := by
  refine VCall_fn tbl_at60 rfl ?_
  simp [vf60]
  refine knot_isFraction hn hd ?_
  cases hf : frac n d with
  | false => simp; simpa [phas, hf] using hK
  | true =>
    simp
    simpa [phas, hf] using hK
theorem ref_ValidDensity {n d : Int} (hn : I64 n) (hd : I64 d) (hK : K (.bool (dens n d)) H) : VCall tbl lim 22 [rat n d] H K := by
  refine VCall_fn tbl_at22 rfl ?_
  have hn2 := hn.2
  by_cases h2 : 1 ≤ d
  · by_cases h3 : d ≤ 1000
    · by_cases h1 : 0 ≤ n
      · by_cases h4 : n ≤ 6 * d
        · obtain ⟨a, rfl⟩ : ∃ a : Nat, n = a := ⟨n.toNat, by omega⟩
          obtain ⟨b, rfl⟩ : ∃ b : Nat, d = b := ⟨d.toNat, by omega⟩
          simp (disch := omega) [vf22, h1, h2, h3, h4, wrap_i64]
          refine ref_divisor (by omega) (by omega) ?_
          simp
          have e : decide (((Nat.gcd a b : Nat) : Int) = 1) = dens a b := by
            simp only [dens, frac, gcd1, Int.toNat_natCast, decide_eq_true h1, decide_eq_true h2, decide_eq_true h3, decide_eq_true h4, Bool.true_and, Bool.and_true]
            exact decide_eq_decide.2 (by omega)
          rw [e]; exact hK
        · simp (disch := omega) [vf22, h1, h2, h3, h4, wrap_i64]
          simpa [dens, h4] using hK
      · simp [vf22, h1, h2, h3]
        simpa [dens, frac, h1] using hK
    · simp [vf22, h2, h3]
      simpa [dens, frac, h3] using hK
  · simp [vf22, h2]
    simpa [dens, frac, h2] using hK
theorem ref_validPhase {n d : Int} (hn : I64 n) (hd : I64 d) (hK : K (.bool (phas n d)) H) : VCall tbl lim 86 [rat n d] H K := by
  refine VCall_fn tbl_at86 rfl ?_
  have hn2 := hn.2
  by_cases h2 : 1 ≤ d
  · by_cases h3 : d ≤ 1000
    · by_cases h1 : 0 ≤ n
      · by_cases h4 : n < d
        · obtain ⟨a, rfl⟩ : ∃ a : Nat, n = a := ⟨n.toNat, by omega⟩
          obtain ⟨b, rfl⟩ : ∃ b : Nat, d = b := ⟨d.toNat, by omega⟩
          have h4' : a < b := by omega
          simp (disch := omega) [vf86, h1, h2, h3, h4, h4']
          refine ref_divisor (by omega) (by omega) ?_
          simp
          have e : decide (((Nat.gcd a b : Nat) : Int) = 1) = phas a b := by
            simp only [phas, frac, gcd1, Int.toNat_natCast, decide_eq_true h1, decide_eq_true h2, decide_eq_true h3, decide_eq_true h4, Bool.true_and, Bool.and_true]
            exact decide_eq_decide.2 (by omega)
          rw [e]; exact hK
        · simp (disch := omega) [vf86, h1, h2, h3, h4]
          simpa [phas, h4] using hK
      · simp [vf86, h1, h2, h3]
        simpa [phas, frac, h1] using hK
    · simp [vf86, h2, h3]
      simpa [phas, frac, h3] using hK
  · simp [vf86, h2]
    simpa [phas, frac, h2] using hK

def hole (n : Int) : Bool := decide (0 ≤ n) && decide (n ≤ 10000)
theorem knot_isHole {n : Int} (hK : K (.bool (hole n)) H) : VCall tbl lim 61 [.int .i64 n] H K := by
  refine VCall_fn tbl_at61 rfl ?_
  simp [vf61]
  exact hK

/-- the hairs of the holes before one, as natural numbers -/
def bef (dn dd pn pd h : Nat) : Nat := (h * dn * pd + pn * dd) / (dd * pd)
/-- a density and a phase -/
structure DP (dn dd pn pd : Nat) : Prop where
  d1 : 1 ≤ dd
  d2 : dd ≤ 1000
  d3 : dn ≤ 6 * dd
  p1 : 1 ≤ pd
  p2 : pd ≤ 1000
  p3 : pn < pd
theorem DP.of {n d m e : Int} (h1 : dens n d = true) (h2 : phas m e = true) : ∃ dn dd pn pd : Nat, n = dn ∧ d = dd ∧ m = pn ∧ e = pd ∧ DP dn dd pn pd := by
  have h1 : frac n d = true ∧ n ≤ 6 * d := by simpa [dens] using h1
  have h2 : frac m e = true ∧ m < e := by simpa [phas] using h2
  have a := frac_bd h1.1
  have b := frac_bd h2.1
  exact ⟨n.toNat, d.toNat, m.toNat, e.toNat, by omega, by omega, by omega, by omega, ⟨by omega, by omega, by omega, by omega, by omega, by omega⟩⟩
theorem DP.bds {dn dd pn pd : Nat} (D : DP dn dd pn pd) {h : Nat} (hh : h ≤ 20000) : h * dn ≤ 120000000 ∧ h * dn * pd ≤ 120000000000 ∧ pn * dd ≤ 1000000 ∧ dd * pd ≤ 1000000 ∧ 1 ≤ dd * pd := by
  have e1 : h * dn ≤ 20000 * 6000 := Nat.mul_le_mul hh (by have := D.d3; have := D.d2; omega)
  have e2 : h * dn * pd ≤ 120000000 * 1000 := Nat.mul_le_mul (by omega) D.p2
  have e3 : pn * dd ≤ 1000 * 1000 := Nat.mul_le_mul (by have := D.p3; have := D.p2; omega) D.d2
  have e4 : dd * pd ≤ 1000 * 1000 := Nat.mul_le_mul D.d2 D.p2
  have e5 : 1 * 1 ≤ dd * pd := Nat.mul_le_mul D.d1 D.p1
  omega
theorem knot_before {dn dd pn pd h : Nat} (D : DP dn dd pn pd) (hh : h ≤ 20000) (hK : K (.int .i64 (bef dn dd pn pd h : Nat)) H) : VCall tbl lim 85 [rat dn dd, rat pn pd, .int .i64 h] H K := by
  refine VCall_fn tbl_at85 rfl ?_
  have b := D.bds hh
  have e1 : (h : Int) * dn = ((h * dn : Nat) : Int) := (Int.natCast_mul _ _).symm
  have e2 : ((h * dn : Nat) : Int) * pd = ((h * dn * pd : Nat) : Int) := (Int.natCast_mul _ _).symm
  have e3 : (pn : Int) * dd = ((pn * dd : Nat) : Int) := (Int.natCast_mul _ _).symm
  have e4 : (dd : Int) * pd = ((dd * pd : Nat) : Int) := (Int.natCast_mul _ _).symm
  unfold bef at hK
  generalize h * dn * pd = B at *
  generalize h * dn = A at *
  generalize pn * dd = C at *
  generalize dd * pd = E at *
  have e5 : (B : Int) + C = ((B + C : Nat) : Int) := by omega
  have e6 : ((B + C : Nat) : Int).tdiv E = (((B + C) / E : Nat) : Int) := rfl
  have e7 := Nat.div_le_self (B + C) E
  generalize hF : B + C = F at *
  generalize F / E = G at *
  simp (disch := omega) [vf85, wrap_i64, e1, e2, e3, e4, e5, e6]
  exact hK
theorem bef_mono {dn dd pn pd a b : Nat} (h : a ≤ b) : bef dn dd pn pd a ≤ bef dn dd pn pd b := by
  unfold bef
  exact Nat.div_le_div_right (Nat.add_le_add_right (Nat.mul_le_mul_right _ (Nat.mul_le_mul_right _ h)) _)
theorem bef_bd {dn dd pn pd h : Nat} (D : DP dn dd pn pd) (hh : h ≤ 20000) : bef dn dd pn pd h ≤ 120001000000 := by
  have b := D.bds hh
  have := Nat.div_le_self (h * dn * pd + pn * dd) (dd * pd)
  unfold bef; omega
theorem knot_stretch {dn dd pn pd a b : Nat} (D : DP dn dd pn pd) (ha : a ≤ 20000) (hb : b ≤ 20000) (hK : K (.int .i64 ((bef dn dd pn pd b : Nat) - (bef dn dd pn pd a : Nat) : Int)) H) : VCall tbl lim 62 [rat dn dd, rat pn pd, .int .i64 a, .int .i64 b] H K := by
  refine VCall_fn tbl_at62 rfl ?_
  have b1 := bef_bd D ha
  have b2 := bef_bd D hb
  simp [vf62]
  refine knot_before D hb ?_
  simp
  refine knot_before D ha ?_
  simp (disch := omega) [wrap_i64]
  exact hK
/-- the hairs of a hole -/
def inHole (dn dd pn pd i : Nat) : Int := (bef dn dd pn pd (i + 1) : Nat) - (bef dn dd pn pd i : Nat)
def holesL (dn dd pn pd n : Nat) : List Int := (List.range n).map fun i => inHole dn dd pn pd i

theorem knot_Row {a b c d n : Int} (ha : I64 a) (hb : I64 b) (hc : I64 c) (hd : I64 d) (hlim : lim ≤ H.length)
    (hE : (dens a b && phas c d && hole n) = false → K (.tup [.snil, .int .i64 1]) H)
    (hO : (dens a b && phas c d && hole n) = true → ∀ dn dd pn pd N : Nat, a = dn → b = dd → c = pn → d = pd → n = N → N ≤ 10000 → DP dn dd pn pd → ∀ H' v, HX H H' → OwnV H.length H' v (holesL dn dd pn pd N) → K (.tup [v, .int .i64 0]) H') :
    VCall tbl lim 24 [rat a b, rat c d, .int .i64 n] H K := by
  refine VCall_fn tbl_at24 rfl ?_
  simp [vf24]
  refine knot_ValidDensity ha hb ?_
  cases h1 : dens a b with
  | false => simp; exact hE (by simp [h1])
  | true =>
  simp
  refine knot_isPhase hc hd ?_
  cases h2 : phas c d with
  | false => simp; exact hE (by simp [h2])
  | true =>
  simp
  refine knot_isHole ?_
  cases h3 : hole n with
  | false => simp; exact hE (by simp [h3])
  | true =>
  obtain ⟨dn, dd, pn, pd, rfl, rfl, rfl, rfl, D⟩ := DP.of h1 h2
  have hn : 0 ≤ n ∧ n ≤ 10000 := by simpa [hole] using h3
  obtain ⟨N, rfl⟩ : ∃ N : Nat, n = N := ⟨n.toNat, by omega⟩
  have hk := hO (by simp [h1, h2, h3]) dn dd pn pd N rfl rfl rfl rfl rfl (by omega) D
  clear hO hE
  simp (disch := omega)
  refine wLoop_up N (fun i fr L H' => (fr 3 = .lp 0 0 ∧ fr 4 = .lp 1 0 ∧ fr 8 = .sl H.length 0 N 1 ∧ fr 25 = .int .i64 N ∧ fr 26 = .int .i64 i) ∧ L = [[.int .i64 dn, .int .i64 dd], [.int .i64 pn, .int .i64 pd]] ∧ HX H H' ∧
    OwnV H.length H' (.sl H.length 0 N 1) ((List.range N).map fun k => if k < i then inHole dn dd pn pd k else 0)) ⟨by simp, by simp, .push, ?_⟩ ?_
  · have e : ((List.range N).map fun k => if k < 0 then inHole dn dd pn pd k else 0) = zs N := by
      refine ext_getD (by simp) fun k hk => ?_
      rw [getD_map_range (by simpa using hk), zs_getD]; simp
    rw [e]
    have := OwnV.new (n := H.length) (H := H) (l := zs N) (Nat.le_refl _)
    simpa using this
  rintro i hi fr L H' ⟨⟨f3, f4, f8, f25, f26⟩, rfl, hx, hv⟩
  simp [f3, f4, f8, f25, f26]
  refine cond_dec (fun ht => ?_) fun hf => ?_
  · simp (disch := omega) [f3, f4, f8, f25, f26, wrap_i64]
    refine knot_stretch (b := i + 1) D (by omega) (by omega) ?_
    have ha := hv.sl.addr (i := (i : Int)) (by simp; omega)
    have hs := fun L => hv.store (lim := lim) (i := i) (x := inHole dn dd pn pd i) (L := L) ⟨hlim, by simp; omega⟩
    have e : ((bef dn dd pn pd (i + 1) : Nat) : Int) - (bef dn dd pn pd i : Nat) = inHole dn dd pn pd i := rfl
    rw [e]
    simp only [Int.toNat_natCast] at ha
    simp (disch := omega) [f3, f4, f8, f25, f26, wrap_i64, ha, hs, -vstore]
    refine ⟨by omega, setH_X hx hv (Nat.le_refl _), ?_⟩
    have := hv.put (l' := ((List.range N).map fun k => if k < i then inHole dn dd pn pd k else 0).set i (inHole dn dd pn pd i)) (by simp)
    rw [map_range_set (by omega)] at this ⊢
    have e2 : (List.range N).map (fun c => if c = i then inHole dn dd pn pd i else if c < i then inHole dn dd pn pd c else 0) = (List.range N).map (fun k => if k < i + 1 then inHole dn dd pn pd k else 0) := by
      refine List.map_congr_left fun k _ => ?_
      by_cases c : k = i
      · subst c; simp
      · rw [if_neg c]; simp only [show k < i + 1 ↔ k < i by omega]
    rw [e2] at this ⊢
    exact this
  · have : i = N := by omega
    subst this
    simp [f8]
    refine hk _ _ hx ?_
    have e2 : (List.range i).map (fun k => if k < i then inHole dn dd pn pd k else 0) = holesL dn dd pn pd i := by
      refine List.map_congr_left fun k hk => ?_
      rw [if_pos (by simpa using hk)]
    rw [e2] at hv
    exact hv
end
end Go.Proofs.Ytakbcmofgfjeiaa.Vm
