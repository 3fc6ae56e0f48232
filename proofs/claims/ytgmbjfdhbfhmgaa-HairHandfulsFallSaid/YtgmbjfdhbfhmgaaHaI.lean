/- Package hair over the machine: weight, comparison, lack. -/
import Derived.Test.YtgmbjfdhbfhmgaaHaH
namespace Go.Proofs.Ytgmbjfdhbfhmgaa.Vm
open Go
set_option maxRecDepth 100000
set_option linter.unusedSimpArgs false
set_option linter.unusedVariables false
attribute [-simp] List.getD_eq_getElem?_getD

/-- rounded to hundreds -/
def rnd (n : Nat) : Nat := if 50 < n % 100 ∨ n % 100 = 50 ∧ n / 100 % 2 = 1 then n / 100 + 1 else n / 100
def weightP (r w : List Int) (d : Int) : Int × Int := if errOf r w = 0 then if d < 0 ∨ 30 < d then (0, 1) else ((rnd ((inF (op r w)).toNat * (100 + d).toNat) : Nat), 0) else (0, errOf r w)

section
variable {lim : Nat} {H : Hp} {av bv : V} {r w r' w' : List Int} {K : V → Hp → Prop}

theorem hair_nearest {n : Nat} (hn : n ≤ 4611686018427387904) (hK : K (.int .i64 (rnd n : Nat)) H) : VCall tbl lim 90 [.int .i64 n, .int .i64 100] H K := by
  refine VCall_fn tbl_at90 rfl ?_
  have e1 : (n : Int).tdiv 100 = ((n / 100 : Nat) : Int) := rfl
  have e2 : (n : Int).tmod 100 = ((n % 100 : Nat) : Int) := rfl
  have hlt : n % 100 < 100 := Nat.mod_lt _ (by omega)
  have hle := Nat.div_le_self n 100
  unfold rnd at hK
  generalize n / 100 = q at *
  generalize n % 100 = p at *
  have e3 : (q : Int).tmod 2 = ((q % 2 : Nat) : Int) := rfl
  have hq2 : q % 2 < 2 := Nat.mod_lt _ (by omega)
  by_cases h1 : 50 < p
  · rw [if_pos (Or.inl h1)] at hK
    have h1' : (100 : Int) < 2 * (p : Int) := by omega
    simp (disch := omega) [vf90, e1, e2, wrap_i64, h1']
    simpa using hK
  · have h1' : ¬ (100 : Int) < 2 * (p : Int) := by omega
    by_cases h2 : p = 50
    · subst h2
      generalize q % 2 = z at *
      by_cases h3 : z = 1
      · subst h3
        rw [if_pos (Or.inr ⟨rfl, rfl⟩)] at hK
        simp (disch := omega) [vf90, e1, e2, e3, wrap_i64]
        simpa using hK
      · rw [if_neg (by omega)] at hK
        have h3' : ¬ (z : Int) = 1 := by omega
        simp (disch := omega) [vf90, e1, e2, e3, wrap_i64, h3']
        simpa using hK
    · rw [if_neg (by omega)] at hK
      have h2' : ¬ (2 : Int) * (p : Int) = 100 := by omega
      simp (disch := omega) [vf90, e1, e2, wrap_i64, h1', h2']
      simpa using hK

theorem hair_Weight (hb : BunV H r w bv) (hlim : lim ≤ H.length) {n : Int} (hn : I64 n) (hK : ∀ H', HX H H' → K (.tup [.int .i64 (weightP r w n).1, .int .i64 (weightP r w n).2]) H') : VCall tbl lim 61 [bv, .int .i64 n] H K := by
  refine VCall_fn tbl_at61 rfl ?_
  simp [vf61, hb.stor.1, hb.load]
  refine hair_open2 hb hlim (fun he H1 x1 => ?_) fun he H1 x1 => ?_
  · have := hK H1 x1
    simp [he]
    simpa [weightP, he] using this
  have hk := hK H1 x1
  simp
  refine cond_bool (fun h1 => ?_) fun h1 => ?_
  · have h1 : n < 0 ∨ 30 < n := by simpa using h1
    simp
    simpa [weightP, he, h1] using hk
  have h1 : ¬ (n < 0 ∨ 30 < n) := by simp at h1; omega
  simp
  refine sheaf_inches2 op_bd ?_
  have b1 := inF_bd (f := op r w) op_bd
  have hw : weightP r w n = (((rnd ((inF (op r w)).toNat * (100 + n).toNat) : Nat) : Int), 0) := by simp [weightP, he, h1]
  rw [hw] at hk
  obtain ⟨x, hx⟩ : ∃ x : Nat, inF (op r w) = x := ⟨(inF (op r w)).toNat, by omega⟩
  obtain ⟨d, hd⟩ : ∃ d : Nat, 100 + n = d := ⟨(100 + n).toNat, by omega⟩
  rw [hx, hd] at hk
  simp only [Int.toNat_natCast] at hk
  have hm := mul_bd (a := (x : Int)) (b := (d : Int)) (A := 1152000000) (B := 130) (by omega) (by omega)
  have hm2 : (x : Int) * d = ((x * d : Nat) : Int) := (Int.natCast_mul x d).symm
  rw [hm2] at hm
  generalize x * d = y at *
  simp (disch := omega) [hx, hd, wrap_i64, hm2]
  refine hair_nearest (by omega) ?_
  simp
  simpa using hk

theorem ref01_Weight (hb : BunV H r w bv) (hlim : lim ≤ H.length) {n : Int} (hn : I64 n) (hK : K (.tup [.int .i64 (weightP r w n).1, .int .i64 (weightP r w n).2]) H) : VCall tbl lim 62 [bv, .int .i64 n] H K := by
  refine VCall_fn tbl_at62 rfl ?_
  simp [vf62, hb.stor.1, hb.load]
  refine ref01_Validate hb ?_
  simp
  refine cond_ndec (fun he => ?_) fun he => ?_
  · simp
    simpa [weightP, he] using hK
  simp
  refine cond_bool (fun h1 => ?_) fun h1 => ?_
  · have h1 : n < 0 ∨ 30 < n := by simpa using h1
    simp
    simpa [weightP, he, h1] using hK
  have h1 : ¬ (n < 0 ∨ 30 < n) := by simp at h1; omega
  simp [hb.stor.1, hb.load]
  refine ref01_open2 hb he ?_
  simp
  refine ref01_inches2 op_bd ?_
  have b1 := inF_bd (f := op r w) op_bd
  have hw : weightP r w n = (((rnd ((inF (op r w)).toNat * (100 + n).toNat) : Nat) : Int), 0) := by simp [weightP, he, h1]
  rw [hw] at hK
  obtain ⟨x, hx⟩ : ∃ x : Nat, inF (op r w) = x := ⟨(inF (op r w)).toNat, by omega⟩
  obtain ⟨d, hd⟩ : ∃ d : Nat, 100 + n = d := ⟨(100 + n).toNat, by omega⟩
  rw [hx, hd] at hK
  simp only [Int.toNat_natCast] at hK
  have hm := mul_bd (a := (x : Int)) (b := (d : Int)) (A := 1152000000) (B := 130) (by omega) (by omega)
  have hm2 : (x : Int) * d = ((x * d : Nat) : Int) := (Int.natCast_mul x d).symm
  rw [hm2] at hm
  generalize x * d = y at *
  have e1 : (y : Int).tdiv 100 = ((y / 100 : Nat) : Int) := rfl
  have e2 : (y : Int).tmod 100 = ((y % 100 : Nat) : Int) := rfl
  have hlt : y % 100 < 100 := Nat.mod_lt _ (by omega)
  have hle := Nat.div_le_self y 100
  unfold rnd at hK
  generalize y / 100 = q at *
  generalize y % 100 = p at *
  have e3 : (q : Int).tmod 2 = ((q % 2 : Nat) : Int) := rfl
  have hq2 : q % 2 < 2 := Nat.mod_lt _ (by omega)
  by_cases h5 : 50 < p
  · rw [if_pos (Or.inl h5)] at hK
    have h5' : (50 : Int) < (p : Int) := by omega
    simp (disch := omega) [hx, hd, wrap_i64, hm2, e1, e2, h5']
    simpa using hK
  · have h5' : ¬ (50 : Int) < (p : Int) := by omega
    by_cases h2 : p = 50
    · subst h2
      generalize q % 2 = z at *
      by_cases h3 : z = 1
      · subst h3
        rw [if_pos (Or.inr ⟨rfl, rfl⟩)] at hK
        simp (disch := omega) [hx, hd, wrap_i64, hm2, e1, e2, e3]
        simpa using hK
      · rw [if_neg (by omega)] at hK
        have h3' : ¬ (z : Int) = 1 := by omega
        simp (disch := omega) [hx, hd, wrap_i64, hm2, e1, e2, e3, h3']
        simpa using hK
    · rw [if_neg (by omega)] at hK
      have h2' : ¬ (p : Int) = 50 := by omega
      simp (disch := omega) [hx, hd, wrap_i64, hm2, e1, e2, h5', h2']
      simpa using hK

/-! comparison -/
def moreN (f g : HF) : Nat → Bool
  | 0 => false
  | k + 1 => moreN f g k || decide (abv g (24 - k) * cntF f < abv f (24 - k) * cntF g)
def codeP (more less : Bool) : Int := if more && less then 3 else if more then 1 else if less then 2 else 0
def cmpP (r w r' w' : List Int) : Int × Int :=
  if er2 r w r' w' = 0 then if cntF (op r w) = 0 ∨ cntF (op r' w') = 0 then (0, 5) else (codeP (moreN (op r w) (op r' w') 24) (moreN (op r' w') (op r w) 24), 0) else (0, er2 r w r' w')
theorem kA_nat {i : Nat} (h : i < 24) : kA ((i : Int) + 1) = 24 - i := by simp only [kA]; omega
theorem er2_zero (h : er2 r w r' w' = 0) : errOf r w = 0 ∧ errOf r' w' = 0 := by
  unfold er2 at h; split at h <;> simp_all

theorem hair_Compare (ha : BunV H r w av) (hb : BunV H r' w' bv) (hlim : lim ≤ H.length) (hK : ∀ H', HX H H' → K (.tup [.int .i64 (cmpP r w r' w').1, .int .i64 (cmpP r w r' w').2]) H') : VCall tbl lim 52 [av, bv] H K := by
  refine VCall_fn tbl_at52 rfl ?_
  simp [vf52, ha.stor.1, hb.stor.1, ha.load, hb.load]
  refine hair_openBoth ha hb hlim (fun he H1 x1 => ?_) fun he H1 x1 => ?_
  · have := hK H1 x1
    simp [he]
    simpa [cmpP, he] using this
  have hk := hK H1 x1
  simp only [cmpP, he, if_true] at hk
  have bf := cntF_op2 (r := r) (w := w)
  have bg := cntF_op2 (r := r') (w := w')
  have of := op_bd (r := r) (w := w)
  have og := op_bd (r := r') (w := w')
  have of9 := op_bd' (r := r) (w := w)
  have og9 := op_bd' (r := r') (w := w')
  generalize op r w = f at *
  generalize op r' w' = g at *
  simp
  refine sheaf_count2 of9 ?_
  by_cases c1 : cntF f = 0
  · simp [c1]
    simpa [c1] using hk
  simp [c1]
  refine sheaf_count2 og9 ?_
  simp
  refine cond_dec (fun c2 => ?_) fun c2 => ?_
  · simp
    simpa [c2] using hk
  rw [if_neg (by omega)] at hk
  simp
  refine wLoop_up 24 (fun i fr L H' => (fr 6 = .lp 2 0 ∧ fr 7 = .lp 3 0 ∧ fr 9 = .bool (moreN f g i) ∧ fr 10 = .bool (moreN g f i) ∧ fr 11 = .int .i64 ((i : Int) + 1)) ∧ L = [cellsV av, cellsV bv, ints (mk48 f), ints (mk48 g)] ∧ H' = H1) ⟨by simp [moreN], by simp, rfl⟩ ?_
  rintro i hi fr L H' ⟨⟨f6, f7, f9, f10, f11⟩, rfl, rfl⟩
  simp [f6, f7, f9, f10, f11]
  refine cond_dec (fun ht => ?_) fun hf => ?_
  · have p1 := abv_bd6 of (24 - i)
    have p2 := abv_bd6 og (24 - i)
    have q1 := mul_bd (a := abv f (24 - i)) (b := cntF g) (A := 48000000) (B := 48000000) (by omega) (by omega)
    have q2 := mul_bd (a := abv g (24 - i)) (b := cntF f) (A := 48000000) (B := 48000000) (by omega) (by omega)
    simp [f6, f7, f9, f10, f11]
    refine sheaf_above2 of9 ⟨by omega, by omega⟩ ?_
    rw [kA_nat (by omega)]
    simp [f6, f7, f9, f10, f11]
    refine sheaf_count2 og9 ?_
    simp [f6, f7, f9, f10, f11]
    refine sheaf_above2 og9 ⟨by omega, by omega⟩ ?_
    rw [kA_nat (by omega)]
    simp [f6, f7, f9, f10, f11]
    refine sheaf_count2 of9 ?_
    simp (disch := omega) [f6, f7, f9, f10, f11, wrap_i64]
    exact ⟨by omega, rfl, rfl⟩
  · have : i = 24 := by omega
    subst this
    generalize moreN f g 24 = x at *
    generalize moreN g f 24 = y at *
    cases x <;> cases y <;> simp [f9, f10] <;> simpa [codeP] using hk

theorem ref01_Compare (ha : BunV H r w av) (hb : BunV H r' w' bv) (hlim : lim ≤ H.length) (hK : K (.tup [.int .i64 (cmpP r w r' w').1, .int .i64 (cmpP r w r' w').2]) H) : VCall tbl lim 53 [av, bv] H K := by
  refine VCall_fn tbl_at53 rfl ?_
  simp [vf53, ha.stor.1, hb.stor.1, ha.load, hb.load]
  refine ref01_both ha hb ?_
  simp
  refine cond_ndec (fun he => ?_) fun he => ?_
  · simp
    simpa [cmpP, he] using hK
  simp only [cmpP, he, if_true] at hK
  obtain ⟨e1, e2⟩ := er2_zero he
  simp [ha.stor.1, hb.stor.1, ha.load, hb.load]
  refine ref01_open2 ha e1 ?_
  simp [hb.stor.1, hb.load]
  refine ref01_open2 hb e2 ?_
  have bf := cntF_op2 (r := r) (w := w)
  have bg := cntF_op2 (r := r') (w := w')
  have of := op_bd (r := r) (w := w)
  have og := op_bd (r := r') (w := w')
  have of9 := op_bd' (r := r) (w := w)
  have og9 := op_bd' (r := r') (w := w')
  generalize op r w = f at *
  generalize op r' w' = g at *
  simp
  refine ref01_above2 of9 ?_
  simp
  refine ref01_above2 og9 ?_
  have hcf : abv f 24 = cntF f := rfl
  have hcg : abv g 24 = cntF g := rfl
  simp [hcf, hcg]
  refine cond_bool (fun hz => ?_) fun hz => ?_
  · have hz : cntF f = 0 ∨ cntF g = 0 := by simpa using hz
    simp
    simpa [hz] using hK
  have hz : ¬ (cntF f = 0 ∨ cntF g = 0) := by simp at hz; omega
  rw [if_neg hz] at hK
  simp
  refine wLoop_up 24 (fun i fr L H' => (fr 7 = .lp 2 0 ∧ fr 8 = .lp 3 0 ∧ fr 9 = .int .i64 (cntF f) ∧ fr 10 = .int .i64 (cntF g) ∧ fr 11 = .bool (moreN f g i) ∧ fr 12 = .bool (moreN g f i) ∧ fr 13 = .int .i64 ((i : Int) + 1)) ∧ L = [cellsV av, cellsV bv, ints (mk50 f), ints (mk50 g)] ∧ H' = H) ⟨by simp [moreN], by simp, rfl⟩ ?_
  rintro i hi fr L H' ⟨⟨f7, f8, f9, f10, f11, f12, f13⟩, rfl, rfl⟩
  simp [f7, f8, f9, f10, f11, f12, f13]
  refine cond_dec (fun ht => ?_) fun hf => ?_
  · have p1 := abv_bd6 of (24 - i)
    have p2 := abv_bd6 og (24 - i)
    have q1 := mul_bd (a := abv f (24 - i)) (b := cntF g) (A := 48000000) (B := 48000000) (by omega) (by omega)
    have q2 := mul_bd (a := abv g (24 - i)) (b := cntF f) (A := 48000000) (B := 48000000) (by omega) (by omega)
    simp [f7, f8, f9, f10, f11, f12, f13]
    refine ref01_above2 of9 ?_
    rw [kA_nat (by omega)]
    simp [f7, f8, f9, f10, f11, f12, f13]
    refine ref01_above2 og9 ?_
    rw [kA_nat (by omega)]
    simp (disch := omega) [f7, f8, f9, f10, f11, f12, f13, wrap_i64]
    refine ⟨by omega, ?_, ?_⟩
    · simp only [moreN] <;> rw [decide_eq_decide.2 (show (0 < abv f (24 - i) * cntF g - abv g (24 - i) * cntF f) ↔ abv g (24 - i) * cntF f < abv f (24 - i) * cntF g by omega)]
    · simp only [moreN] <;> rw [decide_eq_decide.2 (show (abv f (24 - i) * cntF g - abv g (24 - i) * cntF f < 0) ↔ abv f (24 - i) * cntF g < abv g (24 - i) * cntF f by omega)]
  · have : i = 24 := by omega
    subst this
    generalize moreN f g 24 = x at *
    generalize moreN g f 24 = y at *
    cases x <;> cases y <;> simp [f11, f12] <;> simpa [codeP] using hK

/-! lack -/
def lackD (f g : HF) : Nat → Nat
  | 0 => 0
  | k + 1 => if abv f (24 - k) < abv g (24 - k) then k + 1 else lackD f g k
def lackP (r w r' w' : List Int) : Int × Bool × Int := if er2 r w r' w' = 0 then ((lackD (op r w) (op r' w') 24 : Nat), decide (lackD (op r w) (op r' w') 24 ≠ 0), 0) else (0, false, er2 r w r' w')
theorem hair_Lack (ha : BunV H r w av) (hb : BunV H r' w' bv) (hlim : lim ≤ H.length) (hK : ∀ H', HX H H' → K (.tup [.int .i64 (lackP r w r' w').1, .bool (lackP r w r' w').2.1, .int .i64 (lackP r w r' w').2.2]) H') : VCall tbl lim 59 [av, bv] H K := by
  refine VCall_fn tbl_at59 rfl ?_
  simp [vf59, ha.stor.1, hb.stor.1, ha.load, hb.load]
  refine hair_openBoth ha hb hlim (fun he H1 x1 => ?_) fun he H1 x1 => ?_
  · have := hK H1 x1
    simp [he]
    simpa [lackP, he] using this
  have hk := hK H1 x1
  simp only [lackP, he, if_true] at hk
  have of9 := op_bd' (r := r) (w := w)
  have og9 := op_bd' (r := r') (w := w')
  generalize op r w = f at *
  generalize op r' w' = g at *
  simp
  refine wLoop_up 24 (fun i fr L H' => (fr 7 = .lp 2 0 ∧ fr 8 = .lp 3 0 ∧ fr 10 = .int .i64 ((24 - i : Nat) : Int)) ∧ L = [cellsV av, cellsV bv, ints (mk48 f), ints (mk48 g)] ∧ H' = H1 ∧ lackD f g 24 = lackD f g (24 - i)) ⟨by simp, by simp, rfl, rfl⟩ ?_
  rintro i hi fr L H' ⟨⟨f7, f8, f10⟩, rfl, rfl, hd⟩
  obtain ⟨j, hj⟩ : ∃ j, j = 24 - i := ⟨_, rfl⟩
  rw [← hj] at hd f10
  simp [f7, f8, f10]
  refine cond_dec (fun ht => ?_) fun hf => ?_
  · obtain ⟨m, rfl⟩ : ∃ m, j = m + 1 := ⟨j - 1, by omega⟩
    have hkm : kA (((m + 1 : Nat) : Int)) = 24 - m := by push_cast; exact kA_nat (by omega)
    simp [f7, f8, f10]
    refine sheaf_above2 og9 ⟨by omega, by omega⟩ ?_
    have hkm' : kA ((m : Int) + 1) = 24 - m := kA_nat (by omega)
    rw [hkm']
    simp [f7, f8, f10]
    refine sheaf_above2 of9 ⟨by omega, by omega⟩ ?_
    rw [hkm']
    simp
    have hs : lackD f g (m + 1) = if abv f (24 - m) < abv g (24 - m) then m + 1 else lackD f g m := rfl
    rw [hs] at hd
    refine cond_dec (fun hc => ?_) fun hc => ?_
    · rw [if_pos hc] at hd
      simp [f10]
      rw [hd] at hk
      simpa using hk
    · rw [if_neg hc] at hd
      simp (disch := omega) [f7, f8, f10, wrap_i64]
      refine ⟨by omega, by omega, ?_⟩
      rw [hd]; congr 1; omega
  · have : j = 0 := by omega
    subst this
    rw [hd] at hk
    simp
    simpa [lackD] using hk
theorem ref01_Lack (ha : BunV H r w av) (hb : BunV H r' w' bv) (hlim : lim ≤ H.length) (hK : K (.tup [.int .i64 (lackP r w r' w').1, .bool (lackP r w r' w').2.1, .int .i64 (lackP r w r' w').2.2]) H) : VCall tbl lim 60 [av, bv] H K := by
  refine VCall_fn tbl_at60 rfl ?_
  simp [vf60, ha.stor.1, hb.stor.1, ha.load, hb.load]
  refine ref01_both ha hb ?_
  simp
  refine cond_ndec (fun he => ?_) fun he => ?_
  · simp
    simpa [lackP, he] using hK
  simp only [lackP, he, if_true] at hK
  obtain ⟨e1, e2⟩ := er2_zero he
  simp [ha.stor.1, hb.stor.1, ha.load, hb.load]
  refine ref01_open2 ha e1 ?_
  simp [hb.stor.1, hb.load]
  refine ref01_open2 hb e2 ?_
  have of9 := op_bd' (r := r) (w := w)
  have og9 := op_bd' (r := r') (w := w')
  generalize op r w = f at *
  generalize op r' w' = g at *
  simp
  refine wLoop_up 24 (fun i fr L H' => (fr 8 = .lp 2 0 ∧ fr 9 = .lp 3 0 ∧ fr 10 = .int .i64 ((24 - i : Nat) : Int)) ∧ L = [cellsV av, cellsV bv, ints (mk50 f), ints (mk50 g)] ∧ H' = H ∧ lackD f g 24 = lackD f g (24 - i)) ⟨by simp, by simp, rfl, rfl⟩ ?_
  rintro i hi fr L H' ⟨⟨f7, f8, f10⟩, rfl, rfl, hd⟩
  obtain ⟨j, hj⟩ : ∃ j, j = 24 - i := ⟨_, rfl⟩
  rw [← hj] at hd f10
  simp [f7, f8, f10]
  refine cond_dec (fun ht => ?_) fun hf => ?_
  · obtain ⟨m, rfl⟩ : ∃ m, j = m + 1 := ⟨j - 1, by omega⟩
    have hkm' : kA ((m : Int) + 1) = 24 - m := kA_nat (by omega)
    simp [f7, f8, f10]
    refine ref01_above2 og9 ?_
    rw [hkm']
    simp [f7, f8, f10]
    refine ref01_above2 of9 ?_
    rw [hkm']
    simp
    have hs : lackD f g (m + 1) = if abv f (24 - m) < abv g (24 - m) then m + 1 else lackD f g m := rfl
    rw [hs] at hd
    refine cond_dec (fun hc => ?_) fun hc => ?_
    · rw [if_pos hc] at hd
      simp [f10]
      rw [hd] at hK
      simpa using hK
    · rw [if_neg hc] at hd
      simp (disch := omega) [f7, f8, f10, wrap_i64]
      refine ⟨by omega, by omega, ?_⟩
      rw [hd]; congr 1; omega
  · have : j = 0 := by omega
    subst this
    rw [hd] at hK
    simp
    simpa [lackD] using hK
end
end Go.Proofs.Ytgmbjfdhbfhmgaa.Vm
