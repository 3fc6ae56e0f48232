/- The reference of knot over the machine: rows, stretches; spread rows that are looked at; what the laws know. -/
import Derived.Test.YtakbcmofgfjeiaaKnA
namespace Go.Proofs.Ytakbcmofgfjeiaa.Vm
open Go
set_option maxRecDepth 100000
set_option linter.unusedSimpArgs false
set_option linter.unusedVariables false
attribute [-simp] List.getD_eq_getElem?_getD

theorem holesL_snoc {dn dd pn pd i : Nat} : holesL dn dd pn pd (i + 1) = holesL dn dd pn pd i ++ [inHole dn dd pn pd i] := by simp [holesL, List.range_succ]
@[simp] theorem holesL_length {dn dd pn pd i : Nat} : (holesL dn dd pn pd i).length = i := by simp [holesL]
/-- hairs and what is carried on -/
def tot (dn dd pn pd i : Nat) : Nat := i * dn * pd + pn * dd
theorem tot_succ {dn dd pn pd i : Nat} : tot dn dd pn pd (i + 1) = tot dn dd pn pd i + dn * pd := by
  simp only [tot, Nat.succ_mul, Nat.add_mul]; omega
theorem carry {dn dd pn pd i x h : Nat} (hE : 1 ≤ dd * pd) (hx : x < dd * pd) (e : x + h * (dd * pd) = tot dn dd pn pd i % (dd * pd) + dn * pd) :
    bef dn dd pn pd (i + 1) = bef dn dd pn pd i + h ∧ x = tot dn dd pn pd (i + 1) % (dd * pd) := by
  have e1 : tot dn dd pn pd (i + 1) = x + (bef dn dd pn pd i + h) * (dd * pd) := by
    rw [tot_succ, Nat.add_mul]
    have := Nat.div_add_mod (tot dn dd pn pd i) (dd * pd)
    have e2 : bef dn dd pn pd i = tot dn dd pn pd i / (dd * pd) := rfl
    rw [e2, Nat.mul_comm _ (dd * pd)]
    omega
  constructor
  · have e2 : bef dn dd pn pd (i + 1) = tot dn dd pn pd (i + 1) / (dd * pd) := rfl
    rw [e2, e1, Nat.add_mul_div_right _ _ (by omega), Nat.div_eq_of_lt hx]; omega
  · rw [e1, Nat.add_mul_mod_self_right, Nat.mod_eq_of_lt hx]

section
variable {lim : Nat} {H : Hp} {K : V → Hp → Prop}

theorem ref_row {dn dd pn pd N : Nat} (D : DP dn dd pn pd) (hN : N ≤ 10001) (hlim : lim ≤ H.length) (hK : ∀ H' v, HX H H' → OwnV H.length H' v (holesL dn dd pn pd N) → K v H') : VCall tbl lim 64 [rat dn dd, rat pn pd, .int .i64 N] H K := by
  refine VCall_fn tbl_at64 rfl ?_
  have b := D.bds (h := 1) (by omega)
  have e1 : (dd : Int) * pd = ((dd * pd : Nat) : Int) := (Int.natCast_mul _ _).symm
  have e2 : (pn : Int) * dd = ((pn * dd : Nat) : Int) := (Int.natCast_mul _ _).symm
  have e3 : (dn : Int) * pd = ((dn * pd : Nat) : Int) := (Int.natCast_mul _ _).symm
  have hlt : pn * dd < dd * pd := by rw [Nat.mul_comm dd pd]; exact Nat.mul_lt_mul_of_pos_right D.p3 D.d1
  have t0 : tot dn dd pn pd 0 % (dd * pd) = pn * dd := by
    have : tot dn dd pn pd 0 = pn * dd := by simp [tot]
    rw [this]; exact Nat.mod_eq_of_lt hlt
  have hA : dn * pd ≤ 6000000 := by
    have := Nat.mul_le_mul (show dn ≤ 6000 by have := D.d3; have := D.d2; omega) D.p2
    omega
  have cr := fun i x h => carry (dn := dn) (dd := dd) (pn := pn) (pd := pd) (i := i) (x := x) (h := h) b.2.2.2.2
  have bE : dd * pd ≤ 1000000 := b.2.2.2.1
  have bE1 : 1 ≤ dd * pd := b.2.2.2.2
  generalize hE : dd * pd = E at *
  generalize hC : pn * dd = C at *
  generalize hAA : dn * pd = A at *
  obtain ⟨T, hT⟩ : ∃ T : Nat → Nat, ∀ i, T i = tot dn dd pn pd i % E := ⟨_, fun _ => rfl⟩
  rw [← hT] at t0
  simp (disch := omega) [vf64, e1, e2, wrap_i64]
  refine wLoop_up N (fun i fr L H' => ∃ v, (fr 2 = .int .i64 N ∧ fr 3 = .lp 0 0 ∧ fr 4 = .lp 1 0 ∧ fr 7 = v ∧ fr 8 = .int .i64 (E : Int) ∧ fr 9 = .int .i64 ((T i : Nat) : Int) ∧ fr 10 = .int .i64 i) ∧
    L = [[.int .i64 dn, .int .i64 dd], [.int .i64 pn, .int .i64 pd]] ∧ HX H H' ∧ OwnV H.length H' v (holesL dn dd pn pd i)) ⟨.snil, by rw [t0]; simp, by simp, .refl, .nil⟩ ?_
  rintro i hi fr L H' ⟨v, ⟨f2, f3, f4, f7, f8, f9, f10⟩, rfl, hx, hv⟩
  have hxl := hx.len
  have cri := cr i
  have htl : T i < E := by rw [hT]; exact Nat.mod_lt _ (by omega)
  rw [← hT, ← hT] at cri
  generalize hL : T i = lf at *
  have e4 : (lf : Int) + A = ((lf + A : Nat) : Int) := by omega
  simp (disch := omega) [f2, f3, f4, f7, f8, f9, f10, e3, wrap_i64]
  refine cond_dec (fun ht => ?_) fun hf => ?_
  · simp (disch := omega) [f2, f3, f4, f7, f8, f9, f10, e3, wrap_i64]
    refine wLoop_m (n := lf + A) (fun n fr L H2 => ∃ x h : Nat, (fr 2 = .int .i64 N ∧ fr 3 = .lp 0 0 ∧ fr 4 = .lp 1 0 ∧ fr 7 = v ∧ fr 8 = .int .i64 (E : Int) ∧ fr 9 = .int .i64 (x : Int) ∧ fr 10 = .int .i64 i ∧ fr 11 = .int .i64 (h : Int)) ∧
      L = [[.int .i64 dn, .int .i64 dd], [.int .i64 pn, .int .i64 pd]] ∧ H2 = H' ∧ x + h * E = lf + A ∧ n = x) ⟨lf + A, 0, by simp [f2, f3, f4, f7, f8, f10], rfl, rfl, by omega, rfl⟩ ?_
    clear f2 f3 f4 f7 f8 f9 f10
    rintro n fr L H2 ⟨x, h, ⟨f2, f3, f4, f7, f8, f9, f10, f11⟩, rfl, rfl, hxh, rfl⟩
    have hhb : h ≤ h * E := Nat.le_mul_of_pos_right _ (by omega)
    simp [f2, f3, f4, f7, f8, f9, f10, f11]
    refine cond_dec (fun hg => ?_) fun hg => ?_
    · have e5 : (n : Int) - E = ((n - E : Nat) : Int) := by omega
      simp (disch := omega) [f2, f3, f4, f7, f8, f9, f10, f11, wrap_i64, e5]
      refine ⟨n - E, by omega, ?_⟩
      first
        | exact ⟨n - E, h + 1, ⟨by omega, by simp⟩, by rw [Nat.add_mul]; omega, rfl⟩
        | exact ⟨h + 1, ⟨by omega, by simp⟩, by rw [Nat.add_mul]; omega⟩
        | exact ⟨h + 1, by simp, by rw [Nat.add_mul]; omega⟩
    · obtain ⟨c1, c2⟩ := cri n h (by omega) hxh
      have hv2 := hv.append (lim := lim) (x := (h : Int)) (by simp; omega)
      simp at hv2
      have eh : (h : Int) = inHole dn dd pn pd i := by simp only [inHole]; omega
      simp (disch := omega) [f2, f3, f4, f7, f8, f9, f10, f11, wrap_i64, hv2, splice11]
      refine ⟨by omega, _, ⟨rfl, by omega⟩, hv.apX hx (Nat.le_refl _), ?_⟩
      rw [holesL_snoc, ← eh]
      simpa using hv.ap hxl
  · have : i = N := by omega
    subst this
    simp [f7, hv.sl.stor]
    exact hK _ _ hx hv

def rightB (a b c d x y : Int) : Bool := dens a b && (phas c d && (decide (0 ≤ x) && (decide (x ≤ y) && decide (y ≤ 10000))))
theorem ref_right {a b c d x y : Int} (ha : I64 a) (hb : I64 b) (hc : I64 c) (hd : I64 d) (hK : K (.bool (rightB a b c d x y)) H) : VCall tbl lim 63 [rat a b, rat c d, .int .i64 x, .int .i64 y] H K := by
  refine VCall_fn tbl_at63 rfl ?_
  simp [vf63]
  refine ref_ValidDensity ha hb ?_
  cases h1 : dens a b with
  | false => simp; simpa [rightB, h1] using hK
  | true =>
  simp
  refine ref_validPhase hc hd ?_
  cases h2 : phas c d with
  | false => simp; simpa [rightB, h1, h2] using hK
  | true =>
  simp
  simpa [rightB, h1, h2, Bool.and_assoc] using hK

theorem ref_Row {a b c d n : Int} (ha : I64 a) (hb : I64 b) (hc : I64 c) (hd : I64 d) (hlim : lim ≤ H.length)
    (hE : (dens a b && phas c d && hole n) = false → K (.tup [.snil, .int .i64 1]) H)
    (hO : (dens a b && phas c d && hole n) = true → ∀ dn dd pn pd N : Nat, a = dn → b = dd → c = pn → d = pd → n = N → N ≤ 10000 → DP dn dd pn pd → ∀ H' v, HX H H' → OwnV H.length H' v (holesL dn dd pn pd N) → K (.tup [v, .int .i64 0]) H') :
    VCall tbl lim 25 [rat a b, rat c d, .int .i64 n] H K := by
  refine VCall_fn tbl_at25 rfl ?_
  simp [vf25]
  refine ref_right ha hb hc hd ?_
  have e : rightB a b c d 0 n = (dens a b && phas c d && hole n) := by
    simp only [rightB, hole, Bool.and_assoc]; simp
  rw [e]
  cases h : dens a b && phas c d && hole n with
  | false => simp; exact hE h
  | true =>
  have hh : (dens a b = true ∧ phas c d = true) ∧ hole n = true := by simpa using h
  obtain ⟨dn, dd, pn, pd, rfl, rfl, rfl, rfl, D⟩ := DP.of hh.1.1 hh.1.2
  have hn : 0 ≤ n ∧ n ≤ 10000 := by simpa [hole] using hh.2
  obtain ⟨N, rfl⟩ : ∃ N : Nat, n = N := ⟨n.toNat, by omega⟩
  simp
  refine ref_row D (by omega) hlim fun H1 v x1 o1 => ?_
  simp [o1.sl.stor]
  exact hO h dn dd pn pd N rfl rfl rfl rfl rfl (by omega) D H1 v x1 o1

def hairsP (a b c d n : Int) : Int × Int := if dens a b && phas c d && hole n then (inHole a.toNat b.toNat c.toNat d.toNat n.toNat, 0) else (0, 1)
theorem knot_Hairs {a b c d n : Int} (ha : I64 a) (hb : I64 b) (hc : I64 c) (hd : I64 d) (hK : K (.tup [.int .i64 (hairsP a b c d n).1, .int .i64 (hairsP a b c d n).2]) H) : VCall tbl lim 19 [rat a b, rat c d, .int .i64 n] H K := by
  refine VCall_fn tbl_at19 rfl ?_
  simp [vf19]
  refine knot_ValidDensity ha hb ?_
  cases h1 : dens a b with
  | false => simp; simpa [hairsP, h1] using hK
  | true =>
  simp
  refine knot_isPhase hc hd ?_
  cases h2 : phas c d with
  | false => simp; simpa [hairsP, h1, h2] using hK
  | true =>
  simp
  refine knot_isHole ?_
  cases h3 : hole n with
  | false => simp; simpa [hairsP, h1, h2, h3] using hK
  | true =>
  obtain ⟨dn, dd, pn, pd, rfl, rfl, rfl, rfl, D⟩ := DP.of h1 h2
  have hn : 0 ≤ n ∧ n ≤ 10000 := by simpa [hole] using h3
  obtain ⟨N, rfl⟩ : ∃ N : Nat, n = N := ⟨n.toNat, by omega⟩
  simp only [hairsP, h1, h2, h3, Bool.and_true, if_true, Int.toNat_natCast] at hK
  simp (disch := omega) [wrap_i64]
  refine knot_stretch (a := N) (b := N + 1) D (by omega) (by omega) ?_
  simp
  exact hK
theorem ref_Hairs {a b c d n : Int} (ha : I64 a) (hb : I64 b) (hc : I64 c) (hd : I64 d) (hlim : lim ≤ H.length) (hK : ∀ H', HX H H' → K (.tup [.int .i64 (hairsP a b c d n).1, .int .i64 (hairsP a b c d n).2]) H') : VCall tbl lim 20 [rat a b, rat c d, .int .i64 n] H K := by
  refine VCall_fn tbl_at20 rfl ?_
  simp [vf20]
  refine ref_right ha hb hc hd ?_
  have e : rightB a b c d 0 n = (dens a b && phas c d && hole n) := by
    simp only [rightB, hole, Bool.and_assoc]; simp
  rw [e]
  cases h : dens a b && phas c d && hole n with
  | false => have := hK H .refl; simp; simpa [hairsP, h] using this
  | true =>
  have hh : (dens a b = true ∧ phas c d = true) ∧ hole n = true := by simpa using h
  obtain ⟨dn, dd, pn, pd, rfl, rfl, rfl, rfl, D⟩ := DP.of hh.1.1 hh.1.2
  have hn : 0 ≤ n ∧ n ≤ 10000 := by simpa [hole] using hh.2
  obtain ⟨N, rfl⟩ : ∃ N : Nat, n = N := ⟨n.toNat, by omega⟩
  simp (disch := omega) [wrap_i64]
  refine ref_row (N := N + 1) D (by omega) hlim fun H1 v x1 o1 => ?_
  have hk := hK H1 x1
  simp only [hairsP, h, if_true, Int.toNat_natCast] at hk
  have ha := o1.sl.addr (i := (N : Int)) (by simp; omega)
  have hl := fun L => o1.sl.load (i := N) (by simp) (L := L)
  have eg : (holesL dn dd pn pd (N + 1)).getD N 0 = inHole dn dd pn pd N := by rw [holesL, getD_map_range (by omega)]
  rw [eg] at hl
  simp only [Int.toNat_natCast] at ha
  simp [ha, hl]
  exact hk

/-- the sum of a list of small numbers -/
theorem ref_sum {v : V} {l : List Int} (hv : SlV H v l) (hl : l.length ≤ 100000) (hb : ∀ x ∈ l, -1000000000000 ≤ x ∧ x ≤ 1000000000000) (hK : K (.int .i64 l.sum) H) : VCall tbl lim 67 [v] H K := by
  refine VCall_fn tbl_at67 rfl ?_
  simp [vf67]
  refine wLoop_up l.length (fun i fr L H' => (fr 0 = v ∧ fr 3 = .int .i64 (l.take i).sum ∧ fr 4 = .int .i64 i) ∧ L = [] ∧ H' = H ∧ -(i * 1000000000000) ≤ (l.take i).sum ∧ (l.take i).sum ≤ i * 1000000000000) ⟨by simp, rfl, rfl, by simp, by simp⟩ ?_
  rintro i hi fr L H' ⟨⟨f0, f3, f4⟩, rfl, rfl, b1, b2⟩
  simp [f0, f3, f4, hv.len]
  refine cond_dec (fun ht => ?_) fun hf => ?_
  · have hm : l.getD i 0 ∈ l := by rw [List.getD_eq_getElem?_getD, List.getElem?_eq_getElem ht]; exact List.getElem_mem ht
    have hx := hb _ hm
    simp (disch := omega) [f0, f3, f4, hv.addr, hv.load, wrap_i64]
    have e : (l.take (i + 1)).sum = (l.take i).sum + l.getD i 0 := by rw [take_snoc ht, List.sum_append]; simp
    rw [e]
    exact ⟨by omega, rfl, by omega, by omega⟩
  · have : i = l.length := by omega
    subst this
    rw [List.take_length] at f3
    simp [f3]
    exact hK

theorem ref_SameInts {av bv : V} {a b : List Int} (ha : SlV H av a) (hb : SlV H bv b) (hlen : a.length ≤ 4611686018427387904) (hK : K (.bool (decide (a = b))) H) : VCall tbl lim 26 [av, bv] H K := by
  refine VCall_fn tbl_at26 rfl ?_
  simp [vf26, ha.len, hb.len]
  refine cond_ndec (fun hl => ?_) fun hl => ?_
  · have : a ≠ b := fun e => hl (by rw [e])
    simp
    simpa [this] using hK
  have hl : a.length = b.length := by omega
  simp
  refine wLoop_up a.length (fun i fr L H' => (fr 0 = av ∧ fr 1 = bv ∧ fr 5 = .int .i64 i) ∧ L = [] ∧ H' = H ∧ a.take i = b.take i) ⟨by simp, rfl, rfl, by simp⟩ ?_
  rintro i hi fr L H' ⟨⟨h0, h1, h5⟩, rfl, rfl, heq⟩
  simp [h0, h1, h5, ha.len]
  refine cond_dec (fun ht => ?_) fun hf => ?_
  · simp (disch := omega) [h0, h1, h5, ha.addr, ha.load, hb.addr, hb.load]
    refine cond_ndec (fun hn => ?_) fun hn => ?_
    · have : a ≠ b := fun e => hn (by rw [e])
      simp
      simpa [this] using hK
    · simp (disch := omega) [h0, h1, h5, wrap_i64]
      refine ⟨by omega, ?_⟩
      rw [take_snoc ht, take_snoc (show i < b.length by omega), heq, hn]
  · have hil : i = a.length := by omega
    subst hil
    rw [List.take_length, hl, List.take_length] at heq
    subst heq
    simp
    simpa using hK
end
end Go.Proofs.Ytakbcmofgfjeiaa.Vm
