/- Package dye over the machine: what the distance of blends tells; DyeAparts. -/
import Derived.Test.YtkmcdiajcnejiaaBmB
namespace Go.Proofs.Ytkmcdiajcnejiaa.Vm
open Go
set_option maxRecDepth 100000
set_option maxHeartbeats 1000000
set_option linter.unusedSimpArgs false
set_option linter.unusedVariables false
attribute [-simp] List.getD_eq_getElem?_getD
def sumZ (f : Int → Int) : Nat → Int
  | 0 => 0
  | n + 1 => sumZ f n + f (n : Int)
theorem sumZ_congr {f g : Int → Int} : ∀ {n : Nat}, (∀ i : Nat, i < n → f i = g i) → sumZ f n = sumZ g n
  | 0, _ => rfl
  | n + 1, h => by simp only [sumZ, sumZ_congr (n := n) fun i hi => h i (by omega), h n (by omega)]
theorem sumZ_add {f g : Int → Int} : ∀ {n : Nat}, sumZ (fun i => f i + g i) n = sumZ f n + sumZ g n
  | 0 => rfl
  | n + 1 => by have ih := sumZ_add (f := f) (g := g) (n := n); simp only [sumZ, ih]; omega
theorem sumZ_mul {f : Int → Int} {c : Int} : ∀ {n : Nat}, sumZ (fun i => c * f i) n = c * sumZ f n
  | 0 => by simp [sumZ]
  | n + 1 => by have ih := sumZ_mul (f := f) (c := c) (n := n); simp only [sumZ, ih, Int.mul_add]
theorem sumZ_one {k w : Int} : ∀ {n : Nat}, sumZ (fun i => if k = i then w else 0) n = if 0 ≤ k ∧ k < n then w else 0
  | 0 => by rw [if_neg (by omega)]; rfl
  | n + 1 => by
    have ih := sumZ_one (k := k) (w := w) (n := n)
    simp only [sumZ, ih]
    by_cases e : k = n
    · subst e; rw [if_neg (by omega), if_pos rfl, if_pos (by omega)]; omega
    · rw [if_neg e]
      by_cases h : 0 ≤ k ∧ k < n
      · rw [if_pos h, if_pos (by omega)]; omega
      · rw [if_neg h, if_neg (by omega)]; rfl
def wsum : List Prt → Int
  | [] => 0
  | p :: A => p.w + wsum A
theorem wsum_append {B : List Prt} : ∀ {A : List Prt}, wsum (A ++ B) = wsum A + wsum B
  | [] => by simp [wsum]
  | p :: A => by
    have ih := wsum_append (B := B) (A := A)
    simp only [List.cons_append, wsum, ih]; omega
theorem totN_wsum {l : List Prt} : ∀ {n : Nat}, n ≤ l.length → totN l n = wsum (l.take n)
  | 0, _ => by simp [totN, wsum]
  | n + 1, h => by
    have ih := totN_wsum (l := l) (n := n) (by omega)
    simp only [totN, ih]
    rw [take_snocP (by omega), wsum_append]; simp [wsum]
theorem sumZ_wt : ∀ {l : List Prt}, (∀ p, p ∈ l → okS p) → sumZ (wtN l) 240 = wsum l
  | [], _ => by
    have : sumZ (wtN []) 240 = sumZ (fun i => 0 * (0 : Int)) 240 := sumZ_congr fun i _ => rfl
    rw [this, sumZ_mul (f := fun _ => 0)]; simp [wsum]
  | p :: A, h => by
    have ih := sumZ_wt (l := A) fun q hq => h q (List.mem_cons_of_mem _ hq)
    have hr := numS_rng (h p (List.mem_cons_self ..))
    have e : sumZ (wtN (p :: A)) 240 = sumZ (fun i => (if numS p = i then p.w else 0) + wtN A i) 240 := sumZ_congr fun i _ => rfl
    rw [e, sumZ_add (f := fun i => if numS p = i then p.w else 0), sumZ_one, ih, if_pos (by omega)]; rfl
theorem tot_sum {l : List Prt} (h : ∀ p, p ∈ l → okS p) : totP l = sumZ (wtN l) 240 := by
  rw [sumZ_wt h]
  unfold totP
  rw [totN_wsum (Nat.le_refl _), List.take_length]
theorem blP_oks {l : List Prt} (h : blP l = 0) : ∀ p, p ∈ l → okS p := fun p hp => by
  obtain ⟨i, hi, e⟩ := mem_getD hp
  rw [← e]; exact ((blP_ok h).2.2 i hi).1
/-- the distance the other way -/
theorem absP_neg {x : Int} : absP (-x) = absP x := by unfold absP; omega
theorem sumA_congr {f g : Int → Int} : ∀ {n : Nat}, (∀ i : Nat, i < n → absP (f i) = absP (g i)) → sumA f n = sumA g n
  | 0, _ => rfl
  | n + 1, h => by simp only [sumA, sumA_congr (n := n) fun i hi => h i (by omega), h n (by omega)]
theorem dist_neg {a b : List Prt} {i : Int} : distW b a i = -(distW a b i) := by
  unfold distW mixW
  rw [Int.neg_mul, Int.neg_mul]; omega
theorem apO_comm {a b : List Prt} (h : bothE a b = 0) : apO b a = apO a b := by
  obtain ⟨ba, bb⟩ := bothE_ok h
  have h2 : bothE b a = 0 := by unfold bothE; rw [if_neg (fun hh => hh bb)]; exact ba
  have e1 : numP b a = numP a b := sumA_congr fun i _ => by rw [dist_neg, absP_neg]
  have e2 : denP b a = denP a b := by unfold denP; rw [Int.mul_assoc, Int.mul_comm (totP b), ← Int.mul_assoc]
  have e3 : gcdD b a = gcdD a b := by unfold gcdD; rw [e1, e2]
  rw [apO_ok h, apO_ok h2, e1, e2, e3]
theorem sumA_le {f g : Int → Int} : ∀ {n : Nat}, (∀ i : Nat, i < n → absP (f i) ≤ g i) → sumA f n ≤ sumZ g n
  | 0, _ => Int.le_refl _
  | n + 1, h => by
    have ih := sumA_le (f := f) (g := g) (n := n) fun i hi => h i (by omega)
    have := h n (by omega)
    simp only [sumA, sumZ]; omega
theorem num_le_den {a b : List Prt} (ba : blP a = 0) (bb : blP b = 0) : numP a b ≤ denP a b := by
  have oa := blP_okw ba
  have ob := blP_okw bb
  have h1 : numP a b ≤ sumZ (fun i => totP b * wtN a i + totP a * wtN b i) 240 := sumA_le fun i _ => by
    have m1 := Int.mul_nonneg (tot_rng bb).1 (oa.bd (k := (i : Int))).1
    have m2 := Int.mul_nonneg (tot_rng ba).1 (ob.bd (k := (i : Int))).1
    unfold distW mixW
    rw [Int.neg_mul]
    unfold absP
    omega
  rw [sumZ_add (f := fun i => totP b * wtN a i), sumZ_mul, sumZ_mul, ← tot_sum (blP_oks ba), ← tot_sum (blP_oks bb)] at h1
  unfold denP
  have e1 : 2 * totP a * totP b = totP a * totP b + totP a * totP b := by rw [Int.mul_assoc]; omega
  rw [Int.mul_comm (totP b)] at h1
  omega
theorem sumA_zero {f : Int → Int} : ∀ {n : Nat}, sumA f n = 0 → ∀ i : Nat, i < n → f i = 0
  | n + 1, h, i, hi => by
    have h0 : 0 ≤ sumA f n := by
      have : ∀ m, 0 ≤ sumA f m := fun m => by
        induction m with
        | zero => exact Int.le_refl _
        | succ m ih => simp only [sumA]; unfold absP; omega
      exact this n
    have h1 : 0 ≤ absP (f n) := by unfold absP; omega
    simp only [sumA] at h
    by_cases e : i = n
    · subst e
      have : absP (f i) = 0 := by omega
      unfold absP at this; omega
    · exact sumA_zero (n := n) (by omega) i (by omega)
theorem norm_facts {l : List Prt} (h : (normP l).2 = 0) : blP l = 0 ∧ 0 < gN (colP l) (colP l).length ∧ CanL (normP l).1 ∧ ∀ i, wtN l i = gN (colP l) (colP l).length * wtN (normP l).1 i := by
  have hb : blP l = 0 := by
    apply Classical.byContradiction
    intro hn
    unfold normP at h
    rw [if_neg hn] at h
    exact hn h
  obtain ⟨c1, c2, c3, c4⟩ := colP_spec hb
  have hcw : ∀ i, wtN (colP l) i = wtN l i := fun i => by
    have := (canN_spec (W := wtN l) (n := 240) (Nat.le_refl _)).2.2 i
    unfold colP
    rw [this]
    by_cases hi : 0 ≤ i ∧ i < (240 : Nat)
    · rw [if_pos hi]
    · rw [if_neg hi, wtN_far (blP_oks hb) (by omega)]
  have e1 : normP l = nrmP (colP l) := by unfold normP; rw [if_pos hb]
  rw [e1] at h ⊢
  have hgp := gN_pos (L := colP l) (n := (colP l).length) c2 (Nat.le_refl _) fun i hi => (c4 i hi).1
  have hdv := fun i (hi : i < (colP l).length) => gN_dvd (L := colP l) (n := (colP l).length) (i := i) hi
  refine ⟨hb, hgp, ?_⟩
  have hwt := fun i => (hcw i).symm
  generalize colP l = L at *
  unfold nrmP at h ⊢
  split at h
  · simp at h
  rename_i h6
  split at h
  case isFalse => simp at h
  rename_i hall
  rw [if_neg h6, if_pos hall]
  generalize gN L L.length = g at *
  have hdm : ∀ p, p ∈ L → p.w = (dvW g p).w * g ∧ 1 ≤ (dvW g p).w := fun p hp => by
    obtain ⟨i, hi, e⟩ := mem_getD hp
    have := dv_mul hgp (c4 i hi).1 (hdv i hi)
    have hw := (c4 i hi).1
    rw [e] at this hw
    have e3 : (dvW g p).w = p.w.tdiv g := rfl
    rw [e3]
    refine ⟨?_, this.2⟩
    have h1 := this.1
    have h2 := this.2
    have h3 : p.w = ((g * (p.w.tdiv g).toNat : Nat) : Int) := by rw [← h1]; omega
    rw [Int.natCast_mul, Int.toNat_of_nonneg (by omega), Int.mul_comm] at h3
    exact h3
  refine ⟨⟨?_, fun p hp => ?_, fun p hp => ?_⟩, fun i => ?_⟩
  · rw [List.pairwise_map]; exact c1.asc
  · obtain ⟨q, hq, e⟩ := List.mem_map.1 hp
    rw [← e]; exact c1.ok q hq
  · obtain ⟨q, hq, e⟩ := List.mem_map.1 hp
    have := (hdm q hq).2
    rw [← e]; omega
  · rw [hwt i, ← wtN_sc]
    congr 1
    rw [List.map_map]
    have : L = L.map id := by simp
    conv => lhs; rw [this]
    refine List.map_congr_left fun p hp => ?_
    have := (hdm p hp).1
    cases p
    simp only [id, Function.comp, scW, dvW] at this ⊢
    rw [← this]
/-- no distance: the same normal form -/
theorem num_same {a b : List Prt} (ha : (normP a).2 = 0) (hb : (normP b).2 = 0) : numP a b = 0 ↔ (normP a).1 = (normP b).1 := by
  obtain ⟨ba, ga, ca, fa⟩ := norm_facts ha
  obtain ⟨bb, gb, cb, fb⟩ := norm_facts hb
  have ta := tot_pos ba
  have tb := tot_pos bb
  constructor
  · intro h
    have hz := sumA_zero h
    have hall : ∀ i : Int, totP b * wtN a i = totP a * wtN b i := fun i => by
      by_cases hi : 0 ≤ i ∧ i < 240
      · obtain ⟨n, rfl⟩ := Int.eq_ofNat_of_zero_le hi.1
        have := hz n (by omega)
        unfold distW mixW at this
        rw [Int.neg_mul] at this; omega
      · rw [wtN_far (blP_oks ba) hi, wtN_far (blP_oks bb) hi]; simp
    obtain ⟨c1, c2, c3, c4⟩ := colP_spec ba
    obtain ⟨d1, d2, d3, d4⟩ := colP_spec bb
    have hX : (colP a).map (scW (totP b)) = (colP b).map (scW (totP a)) := by
      have hcan : ∀ (l : List Prt) (z : Int), 1 ≤ z → CanL l → CanL (l.map (scW z)) := fun l z hz hl => by
        refine ⟨?_, fun p hp => ?_, fun p hp => ?_⟩
        · rw [List.pairwise_map]; exact hl.asc
        · obtain ⟨q, hq, e⟩ := List.mem_map.1 hp
          rw [← e]; exact hl.ok q hq
        · obtain ⟨q, hq, e⟩ := List.mem_map.1 hp
          rw [← e]
          exact Int.mul_ne_zero (hl.nz q hq) (by omega)
      have hcw : ∀ (l : List Prt), blP l = 0 → ∀ i, wtN (colP l) i = wtN l i := fun l hl i => by
        have := (canN_spec (W := wtN l) (n := 240) (Nat.le_refl _)).2.2 i
        unfold colP
        rw [this]
        by_cases hi : 0 ≤ i ∧ i < (240 : Nat)
        · rw [if_pos hi]
        · rw [if_neg hi, wtN_far (blP_oks hl) (by omega)]
      exact can_uniq (hcan _ _ tb c1) (hcan _ _ ta d1) fun i => by rw [wtN_sc, wtN_sc, hcw a ba, hcw b bb, hall i]
    have hlen : (colP a).length = (colP b).length := by
      have := congrArg List.length hX
      simpa using this
    have key : ∀ (l : List Prt) (z : Int), 1 ≤ z → (∀ i, i < l.length → 1 ≤ (l.getD i default).w) → gN (l.map (scW z)) l.length = z.toNat * gN l l.length := fun l z hz hl => gN_scale fun i hi => by
      have e : (l.map (scW z)).getD i default = scW z (l.getD i default) := by
        rw [List.getD_eq_getElem?_getD, List.getElem?_map, List.getD_eq_getElem?_getD, List.getElem?_eq_getElem hi]; rfl
      rw [e]
      have hw := hl i hi
      obtain ⟨n, hn⟩ := Int.eq_ofNat_of_zero_le (show 0 ≤ (l.getD i default).w by omega)
      obtain ⟨m, hm⟩ := Int.eq_ofNat_of_zero_le (show 0 ≤ z by omega)
      simp only [scW]
      rw [hn, hm, ← Int.natCast_mul, Int.toNat_natCast, Int.toNat_natCast, Int.toNat_natCast, Nat.mul_comm]
    have k1 := key _ _ tb fun i hi => (c4 i hi).1
    have k2 := key _ _ ta fun i hi => (d4 i hi).1
    rw [hX, hlen, k2, ← hlen] at k1
    generalize gN (colP a) (colP a).length = g1 at *
    rw [hlen] at k1
    generalize gN (colP b) (colP b).length = g2 at *
    refine can_uniq ca cb fun i => ?_
    have h1 := hall i
    rw [fa i, fb i, ← Int.mul_assoc, ← Int.mul_assoc] at h1
    have h2 : totP b * (g1 : Int) = totP a * (g2 : Int) := by
      obtain ⟨n, hn⟩ := Int.eq_ofNat_of_zero_le (show 0 ≤ totP a by omega)
      obtain ⟨m, hm⟩ := Int.eq_ofNat_of_zero_le (show 0 ≤ totP b by omega)
      rw [hn, hm] at k1 ⊢
      simp only [Int.toNat_natCast] at k1
      rw [← Int.natCast_mul, ← Int.natCast_mul, k1]
    rw [← h2] at h1
    have h3 : totP b * (g1 : Int) ≠ 0 := Int.mul_ne_zero (by omega) (by omega)
    exact Int.eq_of_mul_eq_mul_left h3 h1
  · intro h
    rw [← h] at fb
    generalize (normP a).1 = u at *
    generalize gN (colP a) (colP a).length = g1 at *
    generalize gN (colP b) (colP b).length = g2 at *
    have sa : totP a = g1 * sumZ (wtN u) 240 := by
      rw [tot_sum (blP_oks ba), ← sumZ_mul]; exact sumZ_congr fun i _ => fa i
    have sb : totP b = g2 * sumZ (wtN u) 240 := by
      rw [tot_sum (blP_oks bb), ← sumZ_mul]; exact sumZ_congr fun i _ => fb i
    have hd : ∀ i, distW a b i = 0 := fun i => by
      unfold distW mixW
      rw [fa i, fb i, sa, sb, Int.neg_mul]
      generalize sumZ (wtN u) 240 = S
      generalize wtN u i = U
      have : (g2 : Int) * S * ((g1 : Int) * U) = (g1 : Int) * S * ((g2 : Int) * U) := by ac_rfl
      omega
    have : numP a b = sumA (fun _ => 0) 240 := sumA_congr fun i _ => by rw [hd i]
    rw [this]
    have : ∀ n, sumA (fun _ => 0) n = 0 := fun n => by
      induction n with
      | zero => rfl
      | succ n ih => simp only [sumA, ih]; rfl
    exact this 240
end Go.Proofs.Ytkmcdiajcnejiaa.Vm
