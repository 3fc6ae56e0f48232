/- Package dye over the machine: half way between two blends; DyeHalves. -/
import Derived.Test.YtkmcdiajcnejiaaBlO
namespace Go.Proofs.Ytkmcdiajcnejiaa.Vm
open Go
set_option maxRecDepth 100000
set_option maxHeartbeats 1000000
set_option linter.unusedSimpArgs false
set_option linter.unusedVariables false
attribute [-simp] List.getD_eq_getElem?_getD
theorem nrm_facts {L : List Prt} (c1 : CanL L) (c2 : 0 < L.length) (c4 : ∀ i, i < L.length → 1 ≤ (L.getD i default).w) (h : (nrmP L).2 = 0) : blP (nrmP L).1 = 0 ∧ 0 < gN L L.length ∧ ∀ i, wtN L i = gN L L.length * wtN (nrmP L).1 i := by
  have hgp := gN_pos (L := L) (n := L.length) c2 (Nat.le_refl _) c4
  have hdv := fun i (hi : i < L.length) => gN_dvd (L := L) (n := L.length) (i := i) hi
  unfold nrmP at h ⊢
  split at h
  · simp at h
  rename_i h6
  split at h
  case isFalse => simp at h
  rename_i hall
  rw [if_neg h6, if_pos hall]
  generalize gN L L.length = g at *
  have hdm : ∀ p, p ∈ L → p.w = (dvW g p).w * g ∧ 1 ≤ (dvW g p).w := fun p hp => by
    obtain ⟨i, hi, e⟩ := mem_getD hp
    have := dv_mul hgp (c4 i hi) (hdv i hi)
    have hw := c4 i hi
    rw [e] at this hw
    have e3 : (dvW g p).w = p.w.tdiv g := rfl
    rw [e3]
    refine ⟨?_, this.2⟩
    have h1 := this.1
    have h2 := this.2
    have h3 : p.w = ((g * (p.w.tdiv g).toNat : Nat) : Int) := by rw [← h1]; omega
    rw [Int.natCast_mul, Int.toNat_of_nonneg (by omega), Int.mul_comm] at h3
    exact h3
  refine ⟨?_, hgp, fun i => ?_⟩
  · have hMl : (L.map (dvW g)).length = L.length := List.length_map _
    have hall2 : ∀ k, k ≤ L.length → allN (fun i => prB ((L.map (dvW g)).getD i default)) k = true := fun k => by
      induction k with
      | zero => intro _; rfl
      | succ k ih =>
        intro hk
        have e : (L.map (dvW g)).getD k default = dvW g (L.getD k default) := by
          rw [List.getD_eq_getElem?_getD, List.getElem?_map, List.getD_eq_getElem?_getD, List.getElem?_eq_getElem (by omega)]; rfl
        have hm := getD_mem (l := L) (i := k) (by omega)
        have b := (hdm _ hm).2
        have c := allN_at hall (i := k) (by omega)
        simp only [ltB, decide_eq_true_eq] at c
        have : prB ((L.map (dvW g)).getD k default) = true := by
          rw [e]
          simp only [prB, Bool.and_eq_true, decide_eq_true_eq]
          have hok : okS (dvW g (L.getD k default)) := c1.ok (L.getD k default) hm
          exact ⟨okS_iff.2 hok, b, c⟩
        simp only [allN, ih (by omega), this, Bool.and_self]
    have := hall2 _ (Nat.le_refl _)
    rw [← hMl] at this
    simp only
    unfold blP
    rw [if_neg (by omega), if_neg (by omega), this, if_neg (by simp)]
  · rw [← wtN_sc]
    congr 1
    rw [List.map_map]
    have : L = L.map id := by simp
    conv => lhs; rw [this]
    refine List.map_congr_left fun p hp => ?_
    have := (hdm p hp).1
    cases p
    simp only [id, Function.comp, scW, dvW] at this ⊢
    rw [← this]
theorem mix_facts {a b : List Prt} (h : (mixP a 1 b 1).2 = 0) : blP a = 0 ∧ blP b = 0 ∧ blP (mixP a 1 b 1).1 = 0 ∧ ∃ g : Nat, 0 < g ∧ ∀ i : Nat, i < 240 → totP b * wtN a i + totP a * wtN b i = g * wtN (mixP a 1 b 1).1 i := by
  have h1 : bothE a b = 0 := by
    apply Classical.byContradiction
    intro hn
    unfold mixP at h
    rw [if_pos hn] at h
    exact hn h
  have h3 : ¬ badM 1 1 := by unfold badM; omega
  obtain ⟨ba, bb⟩ := bothE_ok h1
  have e2 : mixP a 1 b 1 = nrmP (canN (mixW a (1 * totP b) b (1 * totP a)) 240) := by unfold mixP; rw [if_neg (fun hh => hh h1), if_neg h3]
  rw [Int.one_mul, Int.one_mul] at e2
  rw [e2] at h ⊢
  have oa := blP_okw ba
  have ob := blP_okw bb
  have ta := tot_rng ba
  have tb := tot_rng bb
  have tb1 := tot_pos bb
  have hWb := mixW_bd oa ob (wa := totP b) (wb := totP a) (by omega) (by omega)
  obtain ⟨s1, s2, s3⟩ := canN_spec (W := mixW a (totP b) b (totP a)) (n := 240) (Nat.le_refl _)
  have hcw := fun i hi => (canN_w (W := mixW a (totP b) b (totP a)) (n := 240) (i := i) hi hWb).1
  have hlen : 0 < (canN (mixW a (totP b) b (totP a)) 240).length := by
    apply Classical.byContradiction
    intro hn
    have hc : canN (mixW a (totP b) b (totP a)) 240 = [] := List.length_eq_zero_iff.1 (by omega)
    have hsum : sumZ (fun i => totP b * wtN a i + totP a * wtN b i) 240 = sumZ (fun i => 0 * (0 : Int)) 240 := sumZ_congr fun i hi => by
      have := s3 i
      rw [hc, if_pos (by omega)] at this
      unfold mixW at this
      have h0 : wtN ([] : List Prt) (i : Int) = 0 := rfl
      omega
    rw [sumZ_mul (f := fun _ => 0), sumZ_add (f := fun i => totP b * wtN a i), sumZ_mul, sumZ_mul, ← tot_sum (blP_oks ba), ← tot_sum (blP_oks bb)] at hsum
    have p1 : 0 < totP b * totP a := Int.mul_pos (by omega) (by have := tot_pos ba; omega)
    have p2 : 0 < totP a * totP b := Int.mul_pos (by have := tot_pos ba; omega) (by omega)
    omega
  obtain ⟨f1, f2, f3⟩ := nrm_facts s1 hlen hcw h
  refine ⟨ba, bb, f1, _, f2, fun i hi => ?_⟩
  have := s3 i
  rw [if_pos (by omega)] at this
  rw [← f3 i, this]
  rfl
theorem absP_mul {c x : Int} (hc : 0 ≤ c) : absP (c * x) = c * absP x := by
  by_cases h : 0 ≤ x
  · have e1 : absP x = x := by unfold absP; omega
    have := Int.mul_nonneg hc h
    have e2 : absP (c * x) = c * x := by unfold absP; omega
    rw [e1, e2]
  · have e1 : absP x = -x := by unfold absP; omega
    have := Int.mul_nonneg hc (show 0 ≤ -x by omega)
    rw [Int.mul_neg] at this
    have e2 : absP (c * x) = -(c * x) := by unfold absP; omega
    rw [e1, e2, Int.mul_neg]
theorem sumA_mul {f : Int → Int} {c : Int} (hc : 0 ≤ c) : ∀ {n : Nat}, sumA (fun i => c * f i) n = c * sumA f n
  | 0 => by simp [sumA]
  | n + 1 => by have ih := sumA_mul (f := f) hc (n := n); simp only [sumA, ih, absP_mul hc, Int.mul_add]
theorem half_facts {a b m : List Prt} (ba : blP a = 0) (bb : blP b = 0) (bm : blP m = 0) {g : Nat} (hg : 0 < g) (h : ∀ i : Nat, i < 240 → totP b * wtN a i + totP a * wtN b i = g * wtN m i) :
    g * numP a m = totP a * numP a b ∧ g * denP a m = 2 * (totP a * denP a b) ∧ g * numP m b = totP b * numP a b ∧ g * denP m b = 2 * (totP b * denP a b) := by
  have ta := tot_rng ba
  have tb := tot_rng bb
  have hS : (g : Int) * totP m = 2 * (totP a * totP b) := by
    rw [tot_sum (blP_oks bm), ← sumZ_mul]
    have : sumZ (fun i => (g : Int) * wtN m i) 240 = sumZ (fun i => totP b * wtN a i + totP a * wtN b i) 240 := sumZ_congr fun i hi => (h i hi).symm
    rw [this, sumZ_add (f := fun i => totP b * wtN a i), sumZ_mul, sumZ_mul, ← tot_sum (blP_oks ba), ← tot_sum (blP_oks bb), Int.mul_comm (totP b)]
    omega
  refine ⟨?_, ?_, ?_, ?_⟩
  · unfold numP
    rw [← sumA_mul (by omega), ← sumA_mul ta.1]
    refine sumA_congr fun i hi => ?_
    congr 1
    have h1 := h i hi
    unfold distW mixW
    rw [Int.mul_add, Int.mul_add, ← Int.mul_assoc, hS, Int.neg_mul, Int.neg_mul, Int.mul_neg, Int.mul_neg]
    have e1 : (g : Int) * (totP a * wtN m i) = totP a * (g * wtN m i) := by ac_rfl
    rw [e1, ← h1, Int.mul_add]
    have e2 : 2 * (totP a * totP b) * wtN a i = 2 * (totP a * (totP b * wtN a i)) := by ac_rfl
    rw [e2]
    omega
  · unfold denP
    have e1 : (g : Int) * (2 * totP a * totP m) = 2 * totP a * (g * totP m) := by ac_rfl
    rw [e1, hS]
    ac_rfl
  · unfold numP
    rw [← sumA_mul (by omega), ← sumA_mul tb.1]
    refine sumA_congr fun i hi => ?_
    congr 1
    have h1 := h i hi
    unfold distW mixW
    rw [Int.mul_add, Int.mul_add, Int.neg_mul, Int.neg_mul, Int.mul_neg, Int.mul_neg]
    have e1 : (g : Int) * (totP b * wtN m i) = totP b * (g * wtN m i) := by ac_rfl
    have e3 : (g : Int) * (totP m * wtN b i) = (g * totP m) * wtN b i := by ac_rfl
    rw [e1, ← h1, e3, hS, Int.mul_add]
    have e2 : 2 * (totP a * totP b) * wtN b i = 2 * (totP b * (totP a * wtN b i)) := by ac_rfl
    rw [e2]
    omega
  · unfold denP
    have e1 : (g : Int) * (2 * totP m * totP b) = 2 * totP b * (g * totP m) := by ac_rfl
    rw [e1, hS]
    ac_rfl
/-- a fraction in lowest terms -/
theorem apt_red {a b : List Prt} (ba : blP a = 0) (bb : blP b = 0) : ∃ g f e : Nat, 0 < g ∧ 0 < e ∧ numP a b = g * f ∧ denP a b = g * e ∧ (apO a b).1 = ((f : Int), (e : Int)) ∧ Nat.Coprime f e := by
  have h0 : bothE a b = 0 := by unfold bothE; rw [if_neg (fun hh => hh ba)]; exact bb
  rw [apO_ok h0]
  have hg := gcdD_pos ba bb
  have nr := num_rng ba bb
  have dr := den_rng ba bb
  have hgd : gcdD a b = Nat.gcd (numP a b).toNat (denP a b).toNat := rfl
  generalize gcdD a b = g at *
  generalize numP a b = nu at *
  generalize denP a b = de at *
  obtain ⟨n, rfl⟩ := Int.eq_ofNat_of_zero_le nr.1
  obtain ⟨d, rfl⟩ := Int.eq_ofNat_of_zero_le (show 0 ≤ de by omega)
  simp only [Int.toNat_natCast] at hgd
  have d1 : g ∣ n := by rw [hgd]; exact Nat.gcd_dvd_left _ _
  have d2 : g ∣ d := by rw [hgd]; exact Nat.gcd_dvd_right _ _
  obtain ⟨f, rfl⟩ := d1
  obtain ⟨e, rfl⟩ := d2
  have q : ∀ k : Nat, ((g * k : Nat) : Int).tdiv g = k := fun k => by
    rw [Int.tdiv_eq_ediv_of_nonneg (by omega), Int.natCast_mul, Int.mul_ediv_cancel_left _ (by omega)]
  refine ⟨g, f, e, hg, ?_, by rw [Int.natCast_mul], by rw [Int.natCast_mul], by rw [q, q], ?_⟩
  · apply Nat.pos_of_ne_zero
    intro h; subst h; simp at dr
  · rw [Nat.gcd_mul_left] at hgd
    have : g * Nat.gcd f e = g * 1 := by omega
    exact Nat.eq_of_mul_eq_mul_left hg this
theorem red_uniq {f e f' e' : Nat} (h : f * e' = f' * e) (c : Nat.Coprime f e) (c' : Nat.Coprime f' e') (he : 0 < e) (he' : 0 < e') : f = f' ∧ e = e' := by
  have h1 : e ∣ e' := by
    have : e ∣ f * e' := by rw [h]; exact Nat.dvd_mul_left _ _
    exact c.symm.dvd_of_dvd_mul_left this
  have h2 : e' ∣ e := by
    have : e' ∣ f' * e := by rw [← h]; exact Nat.dvd_mul_left _ _
    exact c'.symm.dvd_of_dvd_mul_left this
  have h3 := Nat.dvd_antisymm h1 h2
  subst h3
  exact ⟨Nat.eq_of_mul_eq_mul_right he h, rfl⟩
theorem halves {a b : List Prt} (h : (mixP a 1 b 1).2 = 0) : bothE a b = 0 ∧ bothE a (mixP a 1 b 1).1 = 0 ∧ bothE (mixP a 1 b 1).1 b = 0 ∧ (apO a (mixP a 1 b 1).1).1 = (apO (mixP a 1 b 1).1 b).1 ∧ 2 * (apO a (mixP a 1 b 1).1).1.1 * (apO a b).1.2 = (apO a b).1.1 * (apO a (mixP a 1 b 1).1).1.2 := by
  obtain ⟨ba, bb, bm, g, hg, hw⟩ := mix_facts h
  have both : ∀ {x y : List Prt}, blP x = 0 → blP y = 0 → bothE x y = 0 := fun hx hy => by unfold bothE; rw [if_neg (fun hh => hh hx)]; exact hy
  refine ⟨both ba bb, both ba bm, both bm bb, ?_⟩
  generalize (mixP a 1 b 1).1 = m at *
  obtain ⟨h1, h2, h3, h4⟩ := half_facts ba bb bm hg hw
  obtain ⟨g0, f0, e0, p0, q0, n0, d0, r0, k0⟩ := apt_red ba bb
  obtain ⟨g1, f1, e1, p1, q1, n1, d1, r1, k1⟩ := apt_red ba bm
  obtain ⟨g2, f2, e2, p2, q2, n2, d2, r2, k2⟩ := apt_red bm bb
  rw [r0, r1, r2]
  rw [n1, n0] at h1
  rw [d1, d0] at h2
  rw [n2, n0] at h3
  rw [d2, d0] at h4
  have hg' : (g : Int) ≠ 0 := by omega
  have g0' : (g0 : Int) ≠ 0 := by omega
  have g1' : (g1 : Int) ≠ 0 := by omega
  have g2' : (g2 : Int) ≠ 0 := by omega
  have c1 : (f1 : Int) * e2 = f2 * e1 := by
    have : ((g : Int) * g * (g1 * g2)) * (f1 * e2) = ((g : Int) * g * (g1 * g2)) * (f2 * e1) := by
      have a1 : ((g : Int) * g * (g1 * g2)) * (f1 * e2) = (g * (g1 * f1)) * (g * (g2 * e2)) := by ac_rfl
      have a2 : ((g : Int) * g * (g1 * g2)) * (f2 * e1) = (g * (g2 * f2)) * (g * (g1 * e1)) := by ac_rfl
      rw [a1, a2, h1, h2, h3, h4]
      ac_rfl
    exact Int.eq_of_mul_eq_mul_left (Int.mul_ne_zero (Int.mul_ne_zero hg' hg') (Int.mul_ne_zero g1' g2')) this
  have c2 : (2 : Int) * f1 * e0 = f0 * e1 := by
    have : ((g : Int) * (g1 * g0)) * (2 * f1 * e0) = ((g : Int) * (g1 * g0)) * (f0 * e1) := by
      have a1 : ((g : Int) * (g1 * g0)) * (2 * f1 * e0) = 2 * ((g * (g1 * f1)) * (g0 * e0)) := by ac_rfl
      have a2 : ((g : Int) * (g1 * g0)) * (f0 * e1) = (g0 * f0) * (g * (g1 * e1)) := by ac_rfl
      rw [a1, a2, h1, h2]
      ac_rfl
    exact Int.eq_of_mul_eq_mul_left (Int.mul_ne_zero hg' (Int.mul_ne_zero g1' g0')) this
  have c3 : f1 * e2 = f2 * e1 := by
    have : ((f1 * e2 : Nat) : Int) = ((f2 * e1 : Nat) : Int) := by rw [Int.natCast_mul, Int.natCast_mul]; exact c1
    omega
  obtain ⟨u1, u2⟩ := red_uniq c3 k1 k2 q1 q2
  subst u1
  subst u2
  exact ⟨rfl, c2⟩
section
variable {lim : Nat} {H : Hp} {K : V → Hp → Prop} {v w va vb : V} {l m a b : List Prt} {x y n d : Int}
theorem law_DyeHalves (ha : LstV prC H va a) (hb : LstV prC H vb b) (hlim : lim ≤ H.length) (hK : ∀ H', K (.bool true) H') : VCall tbl lim 7 [va, vb] H K := by
  refine VCall_fn tbl_at7 rfl ?_
  simp [vf7, ha.stor, hb.stor]
  refine law_many ha ?_
  by_cases q1 : 100 < a.length
  · simp [q1]
    refine law_known hlim fun H1 => ?_
    simp; exact hK _
  simp [q1, hb.stor]
  refine law_many hb ?_
  by_cases q2 : 100 < b.length
  · simp [q2]
    refine law_known hlim fun H1 => ?_
    simp; exact hK _
  simp [q2, ha.stor, hb.stor]
  refine dye_Mix ha hb (by constructor <;> omega) (by constructor <;> omega) hlim fun H1 mv x1 hm => ?_
  replace x1 : HX H H1 := x1
  have l1 := x1.len
  have ha1 := ha.mono x1
  have hb1 := hb.mono x1
  by_cases he : (mixP a 1 b 1).2 = 0
  case neg =>
    simp [he]
    refine law_known (by omega) fun H2 => ?_
    simp; exact hK _
  obtain ⟨z1, z2, z3, z4, z5⟩ := halves he
  have e1 : (apO a b).2 = 0 := by rw [apO_err]; exact z1
  have e2 : (apO a (mixP a 1 b 1).1).2 = 0 := by rw [apO_err]; exact z2
  have e3 : (apO (mixP a 1 b 1).1 b).2 = 0 := by rw [apO_err]; exact z3
  have b1 := apO_bd (a := a) (b := b)
  have b2 := apO_bd (a := a) (b := (mixP a 1 b 1).1)
  have b4 := apt_le z1
  have b5 := apt_le z2
  simp [he, iz2, ha.stor, hb.stor]
  generalize (mixP a 1 b 1).1 = M at *
  refine dye_Apart ha1 hb1 (by omega) fun H2 x2 => ?_
  replace x2 : HX H1 H2 := x2
  have l2 := x2.len
  have hm2 := hm.mono x2
  simp [iz2, splice22, rd2w, ha.stor, hm2.stor]
  refine dye_Apart (ha1.mono x2) hm2 (by omega) fun H3 x3 => ?_
  replace x3 : HX H2 H3 := x3
  have l3 := x3.len
  have hm3 := hm2.mono x3
  simp [iz2, splice22, rd2w, hb.stor, hm3.stor]
  refine dye_Apart hm3 ((hb1.mono x2).mono x3) (by omega) fun H4 x4 => ?_
  replace x4 : HX H3 H4 := x4
  have l4 := x4.len
  rw [← z4]
  generalize apO a b = X at *
  generalize apO a M = Y at *
  generalize apO M b = Z at *
  obtain ⟨⟨xn, xd⟩, xe⟩ := X
  obtain ⟨⟨yn, yd⟩, ye⟩ := Y
  obtain ⟨⟨zn, zd⟩, ze⟩ := Z
  simp only at e1 e2 e3 b1 b2 b4 b5 z5
  subst e1 e2 e3
  have w1 : IntKind.i64.wrap (2 * yn) = 2 * yn := wrap_i64 (by omega) (by omega)
  have m1 : 0 ≤ 2 * yn * xd ∧ 2 * yn * xd ≤ 144000000 * 72000000 := ⟨Int.mul_nonneg (by omega) b1.2.1, Int.mul_le_mul (by omega) b1.2.2 b1.2.1 (by omega)⟩
  have w2 : IntKind.i64.wrap (2 * yn * xd) = 2 * yn * xd := wrap_i64 (by omega) (by omega)
  have w3 : IntKind.i64.wrap (xn * yd) = xn * yd := by rw [← z5]; exact w2
  simp [iz2, splice22, rd2w, rd2_0, rd2_1, veqA_2y, w1, w2, w3, z5]
  refine law_known (by omega) fun H5 => ?_
  simp; exact hK _
end
end Go.Proofs.Ytkmcdiajcnejiaa.Vm
