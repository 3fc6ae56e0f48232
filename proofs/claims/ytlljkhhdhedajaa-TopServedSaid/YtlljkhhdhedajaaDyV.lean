/- Package dye over the machine: bounds of sets of wants, lacks; DyeBounds. -/
import Derived.Test.YtlljkhhdhedajaaDyU
namespace Go.Proofs.Ytlljkhhdhedajaa.Vm
open Go
set_option maxRecDepth 100000
set_option maxHeartbeats 2000000
set_option linter.unusedSimpArgs false
set_option linter.unusedVariables false
attribute [-simp] List.getD_eq_getElem?_getD
attribute [local simp] vwant_dv0
/-- a set of wants in a list: each is one, and they ascend -/
def setB (S : List Int) (n : Nat) (i : Nat) : Bool := decide (0 ≤ S.getD i 0 ∧ S.getD i 0 < n ∧ (0 < i → S.getD (i - 1) 0 < S.getD i 0))
def inS (S : List Int) (k : Nat) (w : Nat) : Bool := anyN (fun i => decide (S.getD i 0 = (w : Int))) k
def bouE (A : List Lot) (B : List Wnt) (S : List Int) : Int := if valP A B ≠ 0 then valP A B else if allN (setB S B.length) S.length = false then 1 else 0
def bouP (A : List Lot) (B : List Wnt) (S : List Int) : Int := if bouE A B S = 0 then bndF (netOf A B) (inS S S.length) else 0
section
variable {S : List Int} {n : Nat}
theorem inS_iff {k w : Nat} : inS S k w = true ↔ ∃ i, i < k ∧ S.getD i 0 = (w : Int) := by
  rw [inS, anyN_iff]
  constructor
  · rintro ⟨i, h1, h2⟩; exact ⟨i, h1, by simpa using h2⟩
  · rintro ⟨i, h1, h2⟩; exact ⟨i, h1, by simpa using h2⟩
theorem set_asc (h : allN (setB S n) S.length = true) : ∀ {j i : Nat}, i < j → j < S.length → S.getD i 0 < S.getD j 0
  | 0, i, h1, _ => by omega
  | j + 1, i, h1, h2 => by
    have hj := allN_at h h2
    simp only [setB, decide_eq_true_eq, Nat.add_sub_cancel] at hj
    by_cases e : i = j
    · subst e; exact hj.2.2 (by omega)
    · have := set_asc h (j := j) (i := i) (by omega) (by omega)
      have := hj.2.2 (by omega)
      omega
theorem set_rng (h : allN (setB S n) S.length = true) {i : Nat} (hi : i < S.length) : 0 ≤ S.getD i 0 ∧ S.getD i 0 < n := by
  have hj := allN_at h hi
  simp only [setB, decide_eq_true_eq] at hj
  exact ⟨hj.1, hj.2.1⟩
theorem set_len (h : allN (setB S n) S.length = true) : S.length ≤ n := by
  have key : ∀ i, i < S.length → (i : Int) ≤ S.getD i 0 := by
    intro i
    induction i with
    | zero => intro hi; exact (set_rng h hi).1
    | succ i ih =>
      intro hi
      have := ih (by omega)
      have := set_asc h (i := i) (j := i + 1) (by omega) hi
      omega
  by_cases e : S.length = 0
  · omega
  · have h1 := key (S.length - 1) (by omega)
    have h2 := (set_rng h (i := S.length - 1) (by omega)).2
    omega
/-- what the set takes of the sum of all wants -/
theorem set_sum (h : allN (setB S n) S.length = true) (d : Nat → Int) : ∀ {k : Nat}, k ≤ S.length → su (fun w => if inS S k w = true then 0 else d w) n = su d n - su (fun i => d (S.getD i 0).toNat) k
  | 0, _ => by
    have : ∀ w, inS S 0 w = false := fun w => rfl
    rw [su_congr (g := d) fun w _ => by rw [this w]; rfl]; simp [su]
  | k + 1, hk => by
    have ih := set_sum h d (k := k) (by omega)
    have hr := set_rng h (i := k) (by omega)
    have hin : inS S k (S.getD k 0).toNat = false := by
      cases e : inS S k (S.getD k 0).toNat with
      | false => rfl
      | true =>
        obtain ⟨i, h1, h2⟩ := inS_iff.1 e
        have := set_asc h (i := i) (j := k) h1 (by omega)
        omega
    have e1 : su (fun w => if inS S (k + 1) w = true then 0 else d w) n = su (fun w => if w = (S.getD k 0).toNat then 0 else (if inS S k w = true then 0 else d w)) n := su_congr fun w _ => by
      have : inS S (k + 1) w = (inS S k w || decide (S.getD k 0 = (w : Int))) := rfl
      rw [this]
      by_cases e : w = (S.getD k 0).toNat
      · have : S.getD k 0 = (w : Int) := by omega
        rw [if_pos e, decide_eq_true this, Bool.or_true, if_pos rfl]
      · have : ¬ S.getD k 0 = (w : Int) := by omega
        rw [if_neg e, decide_eq_false this, Bool.or_false]
    rw [e1, su_upd, if_pos (by omega), ih, hin]
    simp only [su, Bool.false_eq_true, if_false]
    omega
end
section
variable {lim : Nat} {H : Hp} {K : V → Hp → Prop} {av bv gv sv : V} {A : List Lot} {B : List Wnt} {G : List Gft} {S : List Int}
theorem set_not {n i : Nat} (hi : i < S.length) (h : ¬ (0 ≤ S.getD i 0 ∧ S.getD i 0 < n ∧ (0 < i → S.getD (i - 1) 0 < S.getD i 0))) : allN (setB S n) S.length = false := allN_not hi (decide_eq_false h)
theorem ref_Bound (ha : LstV lotC H av A) (hb : LstV wntC H bv B) (hs : SlV H sv S) (hl : S.length ≤ 1000) (hK : K (.tup [.int .i64 (bouP A B S), .int .i64 (bouE A B S)]) H) : VCall tbl lim 55 [av, bv, sv] H K := by
  refine VCall_fn tbl_at55 rfl ?_
  simp [vf55, ha.stor, hb.stor, hs.stor]
  refine ref_Validate ha hb ?_
  by_cases hv : valP A B = 0
  case neg =>
    have e1 : bouE A B S = valP A B := by simp [bouE, hv]
    have e2 : bouP A B S = 0 := by simp [bouP, e1, hv]
    rw [e1, e2] at hK
    simp [hv]; exact hK
  obtain ⟨b1, b2, b3, b4⟩ := net_bd hv
  have hbad : allN (setB S B.length) S.length = false → K (.tup [.int .i64 0, .int .i64 1]) H := fun e => by
    have e1 : bouE A B S = 1 := by simp [bouE, hv, e]
    have e2 : bouP A B S = 0 := by simp [bouP, e1]
    rw [e1, e2] at hK
    exact hK
  have wu : ∀ k : Int, 0 ≤ k ∧ k < 100 → IntKind.wrap .u64 k = k := fun k hk => wrap_u64 (by omega)
  simp [hv]
  refine wLoop_up S.length (fun i fr L H' => ∃ m : Nat, (fr 0 = av ∧ fr 1 = bv ∧ fr 2 = sv ∧ fr 9 = .int .i64 m ∧ fr 10 = .int .i64 i) ∧ H' = H ∧ allN (setB S B.length) i = true ∧ (∀ w, m.testBit w = inS S i w) ∧ m < 64 ∧ (i = 0 → m = 0) ∧ (0 < i → m < 2 ^ ((S.getD (i - 1) 0).toNat + 1))) ⟨0, by simp, rfl, rfl, fun w => by simp [inS, anyN], by omega, fun _ => rfl, fun h => by omega⟩ ?_
  rintro i hi fr L H' ⟨m, ⟨f0, f1, f2, f9, f10⟩, e0, hall, hbits, hm, hm0, hm1⟩
  have e0 := e0.symm
  subst e0
  simp [f0, f1, f2, f9, f10, hs.len]
  refine cond_dec (fun ht => ?_) fun hfl => ?_
  · have ht : i < S.length := by omega
    have ai := hs.addr (i := (i : Int)) (by omega)
    simp only [Int.toNat_natCast] at ai
    by_cases c1 : S.getD i 0 < 0
    · simp (disch := omega) [f0, f1, f2, f9, f10, ai, hs.load, lpId_ept, c1]
      exact hbad (set_not ht (by omega))
    by_cases c2 : (B.length : Int) ≤ S.getD i 0
    · simp (disch := omega) [f0, f1, f2, f9, f10, ai, hs.load, lpId_ept, c1, c2, hb.len]
      exact hbad (set_not ht (by omega))
    have hgood : ∀ hok : (0 < i → S.getD (i - 1) 0 < S.getD i 0), setB S B.length i = true := fun hok => decide_eq_true ⟨by omega, by omega, hok⟩
    obtain ⟨x, hx⟩ : ∃ x : Nat, S.getD i 0 = x := ⟨(S.getD i 0).toNat, by omega⟩
    have hx6 : x < 6 := by omega
    have d1 : ((x : Int) < 0) = False := eq_false (by omega)
    have d2 : ((B.length : Int) ≤ (x : Int)) = False := eq_false (by omega)
    have d2' : (B.length ≤ x) = False := eq_false (by omega)
    have hsh := shl_one (k := .u64) (n := x) (by omega)
    have hbit1 : ∀ w, m < 2 ^ x → (m + 2 ^ x).testBit w = (m.testBit w || decide (x = w)) := fun w hlt => by
      rw [Nat.add_comm]
      by_cases e : w = x
      · subst e
        rw [Nat.testBit_two_pow_add_eq, Nat.testBit_lt_two_pow hlt]; simp
      · by_cases e2 : w < x
        · rw [Nat.testBit_two_pow_add_gt e2]; simp [show ¬ x = w by omega]
        · have h1 : m < 2 ^ w := Nat.lt_of_lt_of_le hlt (Nat.pow_le_pow_right (by omega) (by omega))
          have h2 : 2 ^ x + m < 2 ^ w := by
            have : 2 ^ (x + 1) ≤ 2 ^ w := Nat.pow_le_pow_right (by omega) (by omega)
            rw [Nat.pow_succ] at this; omega
          rw [Nat.testBit_lt_two_pow h1, Nat.testBit_lt_two_pow h2]; simp [show ¬ x = w by omega]
    have hp5 : 2 ^ x ≤ 2 ^ 5 := Nat.pow_le_pow_right (by omega) (by omega)
    have e32 : (2 : Nat) ^ 5 = 32 := rfl
    have wr : IntKind.wrap .i64 ((m : Int) + 2 ^ x) = ((m + 2 ^ x : Nat) : Int) := by
      have e : ((2 ^ x : Nat) : Int) = (2 : Int) ^ x := by simp
      have h0 : (0 : Int) ≤ (2 : Int) ^ x := by rw [← e]; exact Int.natCast_nonneg _
      rw [← e, wrap_i64 (by omega) (by omega)]; omega
    have fin : m < 2 ^ x → (∀ w, (m + 2 ^ x).testBit w = inS S (i + 1) w) ∧ m + 2 ^ x < 64 ∧ m + 2 ^ x < 2 ^ (x + 1) := fun hlt => by
      refine ⟨fun w => ?_, by omega, by rw [Nat.pow_succ]; omega⟩
      rw [hbit1 w hlt, hbits w]
      show _ = (inS S i w || decide (S.getD i 0 = (w : Int)))
      rw [hx]
      congr 1
      simp only [decide_eq_decide]; omega
    by_cases c3 : 0 < i
    · have ap := hs.addr (i := (i : Int) - 1) (by omega)
      have ei : ((i : Int) - 1).toNat = i - 1 := by omega
      rw [ei] at ap
      by_cases c4 : S.getD i 0 ≤ S.getD (i - 1) 0
      · simp (disch := omega) [f0, f1, f2, f9, f10, ai, ap, hs.load, lpId_ept, c1, c2, c3, c4, hb.len, wrap_i64]
        exact hbad (set_not ht (by omega))
      · have hlt : m < 2 ^ x := by
          have h1 := hm1 c3
          have h2 : (S.getD (i - 1) 0).toNat + 1 ≤ x := by
            have hj := allN_at hall (i := i - 1) (by omega)
            simp only [setB, decide_eq_true_eq] at hj
            omega
          exact Nat.lt_of_lt_of_le h1 (Nat.pow_le_pow_right (by omega) h2)
        obtain ⟨q1, q2, q3⟩ := fin hlt
        have d4 : ((x : Int) ≤ S.getD (i - 1) 0) = False := eq_false (by omega)
        simp (disch := omega) [f0, f1, f2, f9, f10, ai, ap, hs.load, lpId_ept, d1, d2, d2', c3, d4, hb.len, wrap_i64, wu, hx, hsh]
        exact ⟨by omega, m + 2 ^ x, wr, by simp only [allN, hall, hgood (fun _ => by omega), Bool.and_true], q1, q2, q3⟩
    · have hlt : m < 2 ^ x := by rw [hm0 (by omega)]; exact Nat.pos_of_ne_zero (by simp)
      obtain ⟨q1, q2, q3⟩ := fin hlt
      simp (disch := omega) [f0, f1, f2, f9, f10, ai, hs.load, lpId_ept, d1, d2, d2', c3, hb.len, wrap_i64, wu, hx, hsh]
      exact ⟨by omega, m + 2 ^ x, wr, by simp only [allN, hall, hgood (fun h => absurd h c3), Bool.and_true], q1, q2, q3⟩
  · have : i = S.length := by omega
    subst this
    simp [f0, f1, f9, ha.stor, hb.stor]
    refine ref_bound ha hb hv hm ?_
    have e1 : bouE A B S = 0 := by simp [bouE, hv, hall]
    have e2 : bouP A B S = bndF (netOf A B) fun w => m.testBit w := by
      simp only [bouP, e1, if_true]
      exact bnd_congr fun w _ => (hbits w).symm
    rw [e1, e2] at hK
    simp
    exact hK
theorem dye_Bound (ha : LstV lotC H av A) (hb : LstV wntC H bv B) (hs : SlV H sv S) (hl : S.length ≤ 1000) (hK : K (.tup [.int .i64 (bouP A B S), .int .i64 (bouE A B S)]) H) : VCall tbl lim 54 [av, bv, sv] H K := by
  refine VCall_fn tbl_at54 rfl ?_
  simp [vf54, ha.stor, hb.stor, hs.stor]
  refine dye_Validate ha hb ?_
  by_cases hv : valP A B = 0
  case neg =>
    have e1 : bouE A B S = valP A B := by simp [bouE, hv]
    have e2 : bouP A B S = 0 := by simp [bouP, e1, hv]
    rw [e1, e2] at hK
    simp [hv]; exact hK
  obtain ⟨b1, b2, b3, b4⟩ := net_bd hv
  have hbad : allN (setB S B.length) S.length = false → K (.tup [.int .i64 0, .int .i64 1]) H := fun e => by
    have e1 : bouE A B S = 1 := by simp [bouE, hv, e]
    have e2 : bouP A B S = 0 := by simp [bouP, e1]
    rw [e1, e2] at hK
    exact hK
  simp [hv, hs.len]
  refine wLoop_up S.length (fun i fr L H' => (fr 0 = av ∧ fr 1 = bv ∧ fr 2 = sv ∧ fr 26 = sv ∧ fr 27 = .int .i64 S.length ∧ fr 28 = .int .i64 i) ∧ H' = H ∧ allN (setB S B.length) i = true) ⟨by simp [hs.len], rfl, rfl⟩ ?_
  rintro i hi fr L H' ⟨⟨f0, f1, f2, f26, f27, f28⟩, e0, hall⟩
  have e0 := e0.symm
  subst e0
  simp [f0, f1, f2, f26, f27, f28]
  refine cond_dec (fun ht => ?_) fun hfl => ?_
  · have ht : i < S.length := by omega
    have ai := hs.addr (i := (i : Int)) (by omega)
    simp only [Int.toNat_natCast] at ai
    by_cases c1 : S.getD i 0 < 0
    · simp (disch := omega) [f0, f1, f2, f26, f27, f28, ai, hs.load, lpId_ept, c1]
      exact hbad (set_not ht (by omega))
    by_cases c2 : (B.length : Int) ≤ S.getD i 0
    · simp (disch := omega) [f0, f1, f2, f26, f27, f28, ai, hs.load, lpId_ept, c1, c2, hb.len]
      exact hbad (set_not ht (by omega))
    have hgood : ∀ hok : (0 < i → S.getD (i - 1) 0 < S.getD i 0), setB S B.length i = true := fun hok => decide_eq_true ⟨by omega, by omega, hok⟩
    by_cases c3 : 0 < i
    · have ap := hs.addr (i := (i : Int) - 1) (by omega)
      have ei : ((i : Int) - 1).toNat = i - 1 := by omega
      rw [ei] at ap
      by_cases c4 : S.getD i 0 ≤ S.getD (i - 1) 0
      · simp (disch := omega) [f0, f1, f2, f26, f27, f28, ai, ap, hs.load, lpId_ept, c1, c2, c3, c4, hb.len, wrap_i64]
        exact hbad (set_not ht (by omega))
      · simp (disch := omega) [f0, f1, f2, f26, f27, f28, ai, ap, hs.load, lpId_ept, c1, c2, c3, c4, hb.len, wrap_i64, allN, hall, hgood (fun _ => by omega)]
        omega
    · simp (disch := omega) [f0, f1, f2, f26, f27, f28, ai, hs.load, lpId_ept, c1, c2, c3, hb.len, wrap_i64, allN, hall, hgood (fun h => absurd h c3)]
      omega
  have : i = S.length := by omega
  subst this
  clear hi hfl
  have e1 : bouE A B S = 0 := by simp [bouE, hv, hall]
  have e2 : bouP A B S = bndF (netOf A B) (inS S S.length) := by simp only [bouP, e1, if_true]
  rw [e1, e2] at hK
  have hsl := set_len hall
  have bd1 : ∀ k, k ≤ B.length → 0 ≤ su (fun w => (B.getD w default).w) k ∧ su (fun w => (B.getD w default).w) k ≤ 1000 * (k : Int) := fun k hk => su_bd fun w hw => b4 w (by omega)
  simp [f0, f1, f2, hb.len]
  refine wLoop_up B.length (fun k fr L H' => (fr 0 = av ∧ fr 1 = bv ∧ fr 2 = sv ∧ fr 55 = bv ∧ fr 56 = .int .i64 B.length ∧ fr 57 = .int .i64 k ∧ fr 11 = .int .i64 (su (fun w => (B.getD w default).w) k)) ∧ H' = H) ⟨by simp [f0, f1, f2, hb.len, su], rfl⟩ ?_
  clear f0 f1 f2 f26 f27 f28
  rintro k hk fr L H' ⟨⟨f0, f1, f2, f55, f56, f57, f11⟩, e0⟩
  have e0 := e0.symm
  subst e0
  have bdk := bd1 k hk
  simp [f0, f1, f2, f55, f56, f57, f11]
  refine cond_dec (fun ht => ?_) fun hfl => ?_
  · have ht : k < B.length := by omega
    have hb4 := b4 k ht
    have hsu : su (fun w => (B.getD w default).w) (k + 1) = su (fun w => (B.getD w default).w) k + (B.getD k default).w := rfl
    simp (disch := omega) [f0, f1, f2, f55, f56, f57, f11, hb.at ht, wa_load hb, lastO, lastS, splice55, splice, iz5, lpId_ept, wrap_i64, hsu]
    omega
  have : k = B.length := by omega
  subst this
  clear hk hfl
  simp [f0, f1, f2, f11, hs.len]
  have hrs := fun i (hi : i < S.length) => set_rng hall hi
  have bd2 : ∀ i, i ≤ S.length → 0 ≤ su (fun i => (B.getD (S.getD i 0).toNat default).w) i ∧ su (fun i => (B.getD (S.getD i 0).toNat default).w) i ≤ 1000 * (i : Int) := fun i hi => su_bd fun j hj => b4 _ (by have := hrs j (by omega); omega)
  refine wLoop_up S.length (fun i fr L H' => (fr 0 = av ∧ fr 1 = bv ∧ fr 2 = sv ∧ fr 66 = sv ∧ fr 67 = .int .i64 S.length ∧ fr 68 = .int .i64 i ∧ fr 11 = .int .i64 (su (fun w => (B.getD w default).w) B.length - su (fun i => (B.getD (S.getD i 0).toNat default).w) i)) ∧ H' = H) ⟨by simp [f0, f1, f2, f11, hs.len, su], rfl⟩ ?_
  clear f0 f1 f2 f55 f56 f57 f11
  rintro i hi fr L H' ⟨⟨f0, f1, f2, f66, f67, f68, f11⟩, e0⟩
  have e0 := e0.symm
  subst e0
  have bdi := bd2 i hi
  simp [f0, f1, f2, f66, f67, f68, f11]
  refine cond_dec (fun ht => ?_) fun hfl => ?_
  · have ht : i < S.length := by omega
    have hr := hrs i ht
    have ai := hs.addr (i := (i : Int)) (by omega)
    simp only [Int.toNat_natCast] at ai
    have ab := hb.addr (i := S.getD i 0) (by omega)
    have hit : (S.getD i 0).toNat < B.length := by omega
    have hb4 := b4 _ hit
    have fb := hb.faddr (i := (S.getD i 0).toNat) (j := 0) hit
    have hsu : su (fun i => (B.getD (S.getD i 0).toNat default).w) (i + 1) = su (fun i => (B.getD (S.getD i 0).toNat default).w) i + (B.getD (S.getD i 0).toNat default).w := rfl
    simp (disch := omega) [f0, f1, f2, f66, f67, f68, f11, ai, hs.load, lpId_ept, lpId_eptf, ab, fb, wa_get hb, wrap_i64, hsu]
    omega
  have : i = S.length := by omega
  subst this
  clear hi hfl
  have hset := set_sum (d := fun w => (B.getD w default).w) hall (Nat.le_refl S.length)
  rw [← hset] at f11
  have f1b : ∀ w, w < B.length → 0 ≤ (if inS S S.length w = true then 0 else (B.getD w default).w) ∧ (if inS S S.length w = true then 0 else (B.getD w default).w) ≤ 1000 := fun w hw => by
    have := b4 w hw
    split <;> omega
  have sb := su_bd (n := B.length) f1b
  have f2b : ∀ l, l < A.length → 0 ≤ (if nearA (netOf A B) (inS S S.length) l = true then (A.getD l default).w else 0) ∧ (if nearA (netOf A B) (inS S S.length) l = true then (A.getD l default).w else 0) ≤ 1000 := fun l hl => by
    have := b3 l hl
    split <;> omega
  have hnear : ∀ l, nearA (netOf A B) (inS S S.length) l = true ↔ ∃ i, i < S.length ∧ (netOf A B).N l (S.getD i 0).toNat = true := fun l => by
    rw [nearA, anyN_iff]
    constructor
    · rintro ⟨w, h1, h2⟩
      simp only [Bool.and_eq_true] at h2
      obtain ⟨i, q1, q2⟩ := inS_iff.1 h2.1
      exact ⟨i, q1, by rw [q2]; exact h2.2⟩
    · rintro ⟨i, h1, h2⟩
      have := hrs i h1
      refine ⟨(S.getD i 0).toNat, by show _ < B.length; omega, ?_⟩
      simp only [Bool.and_eq_true]
      exact ⟨inS_iff.2 ⟨i, h1, by omega⟩, h2⟩
  have hbnd : bndF (netOf A B) (inS S S.length) = su (fun w => if inS S S.length w = true then 0 else (B.getD w default).w) B.length + su (fun l => if nearA (netOf A B) (inS S S.length) l = true then (A.getD l default).w else 0) A.length := rfl
  rw [hbnd] at hK
  generalize su (fun w => if inS S S.length w = true then 0 else (B.getD w default).w) B.length = X at *
  simp [f0, f1, f2, f11, ha.len]
  refine wLoop_up A.length (fun l fr L H' => (fr 0 = av ∧ fr 1 = bv ∧ fr 2 = sv ∧ fr 80 = av ∧ fr 81 = .int .i64 A.length ∧ fr 82 = .int .i64 l ∧ fr 11 = .int .i64 (X + su (fun l => if nearA (netOf A B) (inS S S.length) l = true then (A.getD l default).w else 0) l)) ∧ H' = H) ⟨by simp [f0, f1, f2, f11, ha.len, su], rfl⟩ ?_
  clear f0 f1 f2 f66 f67 f68 f11
  rintro l hl2 fr L H' ⟨⟨f0, f1, f2, f80, f81, f82, f11⟩, e0⟩
  have e0 := e0.symm
  subst e0
  have sb2 := su_bd (n := l) fun j hj => f2b j (by omega)
  simp [f0, f1, f2, f80, f81, f82, f11]
  refine cond_dec (fun ht => ?_) fun hfl => ?_
  · have ht : l < A.length := by omega
    have hb3 := b3 l ht
    have hsu : su (fun l => if nearA (netOf A B) (inS S S.length) l = true then (A.getD l default).w else 0) (l + 1) = su (fun l => if nearA (netOf A B) (inS S S.length) l = true then (A.getD l default).w else 0) l + (if nearA (netOf A B) (inS S S.length) l = true then (A.getD l default).w else 0) := rfl
    generalize su (fun l => if nearA (netOf A B) (inS S S.length) l = true then (A.getD l default).w else 0) (l + 1) = Y1 at *
    generalize su (fun l => if nearA (netOf A B) (inS S S.length) l = true then (A.getD l default).w else 0) l = Y0 at *
    simp (disch := omega) [f0, f1, f2, f80, f81, f82, f11, ha.at ht, lo_load ha, lastO, lastS, splice44, splice, iz4, lpId_ept, hs.len]
    have lq0 : (L ++ [[V.int .i64 (A.getD l default).w, .int .i64 (A.getD l default).l, .int .i64 (A.getD l default).t, .int .i64 (A.getD l default).b]])[L.length]? = some [V.int .i64 (A.getD l default).w, .int .i64 (A.getD l default).l, .int .i64 (A.getD l default).t, .int .i64 (A.getD l default).b] := by simp
    generalize hLL : L ++ [[V.int .i64 (A.getD l default).w, .int .i64 (A.getD l default).l, .int .i64 (A.getD l default).t, .int .i64 (A.getD l default).b]] = LL at *
    refine wLoop_post 8 (fun fr L' H' => (fr 0 = av ∧ fr 1 = bv ∧ fr 2 = sv ∧ fr 80 = av ∧ fr 81 = .int .i64 A.length ∧ fr 82 = .int .i64 l ∧ fr 11 = .int .i64 (X + Y1)) ∧ H' = H) ?_ ?_
    · refine wLoop_up S.length (fun i fr L' H' => (fr 0 = av ∧ fr 1 = bv ∧ fr 2 = sv ∧ fr 80 = av ∧ fr 81 = .int .i64 A.length ∧ fr 82 = .int .i64 l ∧ fr 11 = .int .i64 (X + Y0) ∧ fr 17 = .lp L.length 0 ∧ fr 86 = sv ∧ fr 87 = .int .i64 S.length ∧ fr 88 = .int .i64 i) ∧ L' = LL ∧ H' = H ∧ ∀ j, j < i → (netOf A B).N l (S.getD j 0).toNat = false) ⟨by simp [f0, f1, f2, f80, f81, f82, f11, hs.len], rfl, rfl, fun j hj => by omega⟩ ?_
      clear f0 f1 f2 f80 f81 f82 f11
      rintro i hi fr L' H' ⟨⟨f0, f1, f2, f80, f81, f82, f11, f17, f86, f87, f88⟩, e1, e0, hno⟩
      have e0 := e0.symm
      have e1 := e1.symm
      subst e0
      subst e1
      simp [f0, f1, f2, f80, f81, f82, f11, f17, f86, f87, f88]
      refine cond_dec (fun ht2 => ?_) fun hfl2 => ?_
      · have ht2 : i < S.length := by omega
        have hr := hrs i ht2
        have ai := hs.addr (i := (i : Int)) (by omega)
        simp only [Int.toNat_natCast] at ai
        have ab := hb.addr (i := S.getD i 0) (by omega)
        have hit : (S.getD i 0).toNat < B.length := by omega
        have r4 : rd (some 4) [V.int .i64 (A.getD l default).w, .int .i64 (A.getD l default).l, .int .i64 (A.getD l default).t, .int .i64 (A.getD l default).b] 0 = some (.agg [V.int .i64 (A.getD l default).w, .int .i64 (A.getD l default).l, .int .i64 (A.getD l default).t, .int .i64 (A.getD l default).b]) := Eq.trans rfl rfl
        have r0 : rd none [V.int .i64 (A.getD l default).w, .int .i64 (A.getD l default).l, .int .i64 (A.getD l default).t, .int .i64 (A.getD l default).b] 0 = some (V.int .i64 (A.getD l default).w) := Eq.trans rfl rfl
        have hN : nearB (A.getD l default).l (A.getD l default).t (A.getD l default).b (B.getD (S.getD i 0).toNat default).l (B.getD (S.getD i 0).toNat default).t (B.getD (S.getD i 0).toNat default).b (B.getD (S.getD i 0).toNat default).n = (netOf A B).N l (S.getD i 0).toNat := rfl
        simp (disch := omega) [f0, f1, f2, f80, f81, f82, f11, f17, f86, f87, f88, ai, hs.load, lpId_ept, ab, wa_load hb, lq0, r4]
        refine dye_Near ?_
        rw [hN]
        cases hn : (netOf A B).N l (S.getD i 0).toNat with
        | true =>
          have hne : nearA (netOf A B) (inS S S.length) l = true := (hnear l).2 ⟨i, ht2, hn⟩
          rw [hne] at hsu
          simp only [if_true] at hsu
          simp (disch := omega) [f0, f1, f2, f80, f81, f82, f11, f17, lq0, r0, wrap_i64, hsu]
          omega
        | false =>
          simp (disch := omega) [f0, f1, f2, f80, f81, f82, f11, f17, f86, f87, f88, wrap_i64]
          refine ⟨by omega, fun j hj => ?_⟩
          by_cases e : j = i
          · subst e; exact hn
          · exact hno j (by omega)
      · have : i = S.length := by omega
        subst this
        have hne : nearA (netOf A B) (inS S S.length) l = false := by
          cases e : nearA (netOf A B) (inS S S.length) l with
          | false => rfl
          | true =>
            obtain ⟨j, h1, h2⟩ := (hnear l).1 e
            rw [hno j h1] at h2; cases h2
        rw [hne] at hsu
        simp only [Bool.false_eq_true, if_false] at hsu
        simp [f0, f1, f2, f80, f81, f82, f11, hsu]
    clear f0 f1 f2 f80 f81 f82 f11
    rintro fr L2 H2 ⟨⟨f0, f1, f2, f80, f81, f82, f11⟩, e0⟩
    have e0 := e0.symm
    subst e0
    simp (disch := omega) [f0, f1, f2, f80, f81, f82, f11, wrap_i64]
    omega
  · have : l = A.length := by omega
    subst this
    simp [f11]
    exact hK
end
end Go.Proofs.Ytlljkhhdhedajaa.Vm
