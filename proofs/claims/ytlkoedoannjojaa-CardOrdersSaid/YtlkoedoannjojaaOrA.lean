/- Package card over the machine: the order of the entries; CardOrders. -/
import Derived.Test.YtlkoedoannjojaaCaH
import Derived.Test.YtlkoedoannjojaaSqE
namespace Go.Proofs.Ytlkoedoannjojaa.Vm
open Go
set_option maxRecDepth 100000
set_option maxHeartbeats 1000000
set_option linter.unusedSimpArgs false
set_option linter.unusedVariables false
attribute [-simp] List.getD_eq_getElem?_getD
def cmpI (x y : Int) : Int := if x < y then -1 else if y < x then 1 else 0
def ageE (e : En) : Int := e.a + e.b + e.c
def kA (c : List En) (x : Int) : Int := ageE (c.getD x.toNat default)
def kP (c : List En) (x : Int) : Int := (c.getD x.toNat default).p
def cfO (c : List En) (x y : Int) : Int := if cmpI (kA c x) (kA c y) ≠ 0 then cmpI (kA c x) (kA c y) else cmpI (kP c x) (kP c y)
theorem cfO_le {c : List En} {x y : Int} : leC (cfO c) x y ↔ kA c x < kA c y ∨ (kA c x = kA c y ∧ kP c x ≤ kP c y) := by
  unfold leC cfO cmpI
  repeat' split
  all_goals constructor <;> intro h <;> omega
theorem cfO_ordr {c : List En} : Ordr (cfO c) := ⟨fun x y z h1 h2 => by rw [cfO_le] at *; omega, fun x y => by rw [cfO_le, cfO_le]; omega⟩
section
variable {c : List En}
theorem age_rng (h : valE c = 0) {i : Nat} (hi : i < c.length) : 0 ≤ ageE (c.getD i default) ∧ ageE (c.getD i default) ≤ 180 := by
  have s := (valE_ok h hi).2.2
  simp only [seenR, Bool.and_eq_true] at s
  have r := s.1.2
  simp only [rangB, Bool.and_eq_true, decide_eq_true_eq] at r
  have l := valE_small h
  have c0 := cntE_le (c := c) (q := 0) (n := c.length)
  have c1 := cntE_le (c := c) (q := 1) (n := c.length)
  have c2 := cntE_le (c := c) (q := 2) (n := c.length)
  unfold ageE; omega
/-- who has seen another one is older -/
theorem sees_age (h : valE c = 0) {i k : Nat} (hi : i < c.length) (hk : k < c.length) (hs : seesB (c.getD i default) (c.getD k default) = true) : ageE (c.getD k default) < ageE (c.getD i default) := by
  have si := (valE_ok h hi).2.2
  have sk := (valE_ok h hk).2.2
  simp only [seenR, Bool.and_eq_true] at si sk
  have t := allN_at si.2 hk
  simp only [trB, hs, Bool.true_and, Bool.not_eq_true'] at t
  have ok := sk.1.1
  simp only [selfB, decide_eq_true_eq] at ok
  simp only [seesB, decide_eq_true_eq] at hs
  have pl := val_pl h hk
  have a0 := at3 (q := 0) t
  have a1 := at3 (q := 1) t
  have a2 := at3 (q := 2) t
  generalize c.getD i default = e at *
  generalize c.getD k default = f at *
  have hlt : f.at f.p.toNat < e.at f.p.toNat := by omega
  have e0 : ∀ z : En, z.at 0 = z.a := fun _ => rfl
  have e1 : ∀ z : En, z.at 1 = z.b := fun _ => rfl
  have e2 : ∀ z : En, z.at 2 = z.c := fun _ => rfl
  rw [e0, e0] at a0
  rw [e1, e1] at a1
  rw [e2, e2] at a2
  unfold ageE
  rcases (show f.p.toNat = 0 ∨ f.p.toNat = 1 ∨ f.p.toNat = 2 by omega) with hp | hp | hp
  · rw [hp, e0, e0] at hlt; omega
  · rw [hp, e1, e1] at hlt; omega
  · rw [hp, e2, e2] at hlt; omega
theorem own_sees (h : valE c = 0) {i k : Nat} (hik : i < k) (hk : k < c.length) (hp : (c.getD i default).p = (c.getD k default).p) : seesB (c.getD k default) (c.getD i default) = true := by
  have hlt := val_lt h hik hk hp
  have sk := (valE_ok h hk).2.2
  simp only [seenR, Bool.and_eq_true] at sk
  have ok := sk.1.1
  simp only [selfB, decide_eq_true_eq] at ok
  simp only [seesB, decide_eq_true_eq, hp]
  omega
theorem age_uniq (h : valE c = 0) {i k : Nat} (hi : i < c.length) (hk : k < c.length) (hp : (c.getD i default).p = (c.getD k default).p) (ha : ageE (c.getD i default) = ageE (c.getD k default)) : i = k := by
  rcases Nat.lt_trichotomy i k with x | x | x
  · have := sees_age h hk hi (own_sees h x hk hp); omega
  · exact x
  · have := sees_age h hi hk (own_sees h x hi hp.symm); omega
/-- the order of the document -/
def pickB (c : List En) (n p : Nat) (i : Nat) : Bool := decide (ageE (c.getD i default) = n) && decide ((c.getD i default).p = p)
def ordI (c : List En) (n p k : Nat) : List Int := ((List.range k).filter (pickB c n p)).map Int.ofNat
def ordP (c : List En) (n : Nat) : Nat → List Int
  | 0 => []
  | p + 1 => ordP c n p ++ ordI c n p c.length
def ordN (c : List En) : Nat → List Int
  | 0 => []
  | n + 1 => ordN c n ++ ordP c n 3
theorem ordI_succ {n p k : Nat} : ordI c n p (k + 1) = if pickB c n p k = true then ordI c n p k ++ [(k : Int)] else ordI c n p k := by
  simp only [ordI, List.range_succ, List.filter_append, List.map_append]
  by_cases h : pickB c n p k = true
  · simp [h]
  · simp [h]
theorem ordI_mem {n p k : Nat} {x : Int} : x ∈ ordI c n p k ↔ ∃ i : Nat, x = i ∧ i < k ∧ ageE (c.getD i default) = n ∧ (c.getD i default).p = p := by
  simp only [ordI, List.mem_map, List.mem_filter, List.mem_range, pickB, Bool.and_eq_true, decide_eq_true_eq]
  constructor
  · rintro ⟨i, ⟨h1, h2⟩, rfl⟩; exact ⟨i, rfl, h1, h2⟩
  · rintro ⟨i, rfl, h1, h2⟩; exact ⟨i, ⟨h1, h2⟩, rfl⟩
theorem ordP_mem {n : Nat} {x : Int} : ∀ {p : Nat}, x ∈ ordP c n p ↔ ∃ i : Nat, x = i ∧ i < c.length ∧ ageE (c.getD i default) = n ∧ (0 ≤ (c.getD i default).p ∧ (c.getD i default).p < p)
  | 0 => by simp only [ordP, List.not_mem_nil, false_iff]; rintro ⟨i, _, _, _, h⟩; omega
  | p + 1 => by
    rw [ordP, List.mem_append, ordP_mem (p := p), ordI_mem]
    constructor
    · rintro (⟨i, h1, h2, h3, h4⟩ | ⟨i, h1, h2, h3, h4⟩)
      · exact ⟨i, h1, h2, h3, by omega⟩
      · exact ⟨i, h1, h2, h3, by omega⟩
    · rintro ⟨i, h1, h2, h3, h4⟩
      by_cases e : (c.getD i default).p = p
      · exact Or.inr ⟨i, h1, h2, h3, e⟩
      · exact Or.inl ⟨i, h1, h2, h3, by omega⟩
theorem ordN_mem {x : Int} : ∀ {n : Nat}, x ∈ ordN c n ↔ ∃ i : Nat, x = i ∧ i < c.length ∧ (0 ≤ ageE (c.getD i default) ∧ ageE (c.getD i default) < n) ∧ (0 ≤ (c.getD i default).p ∧ (c.getD i default).p < 3)
  | 0 => by simp only [ordN, List.not_mem_nil, false_iff]; rintro ⟨i, _, _, h, _⟩; omega
  | n + 1 => by
    rw [ordN, List.mem_append, ordN_mem (n := n), ordP_mem]
    constructor
    · rintro (⟨i, h1, h2, h3, h4⟩ | ⟨i, h1, h2, h3, h4⟩)
      · exact ⟨i, h1, h2, by omega, h4⟩
      · exact ⟨i, h1, h2, by omega, by omega⟩
    · rintro ⟨i, h1, h2, h3, h4⟩
      by_cases e : ageE (c.getD i default) = n
      · exact Or.inr ⟨i, h1, h2, e, by omega⟩
      · exact Or.inl ⟨i, h1, h2, by omega, h4⟩
def ltO (c : List En) (x y : Int) : Prop := kA c x < kA c y ∨ (kA c x = kA c y ∧ kP c x < kP c y)
theorem ordI_sort (h : valE c = 0) {n p : Nat} : ∀ {k : Nat}, k ≤ c.length → (ordI c n p k).Pairwise (ltO c)
  | 0, _ => by simp [ordI]
  | k + 1, hk => by
    rw [ordI_succ]
    have ih := ordI_sort h (n := n) (p := p) (k := k) (by omega)
    split
    · rename_i hp
      simp only [pickB, Bool.and_eq_true, decide_eq_true_eq] at hp
      refine List.pairwise_append.2 ⟨ih, List.pairwise_singleton _ _, fun x hx y hy => ?_⟩
      obtain ⟨i, rfl, h1, h2, h3⟩ := ordI_mem.1 hx
      have := age_uniq h (i := i) (k := k) (by omega) (by omega) (by omega) (by omega)
      omega
    · exact ih
theorem ordP_sort (h : valE c = 0) {n : Nat} : ∀ {p : Nat}, (ordP c n p).Pairwise (ltO c)
  | 0 => List.Pairwise.nil
  | p + 1 => by
    refine List.pairwise_append.2 ⟨ordP_sort h, ordI_sort h (Nat.le_refl _), fun x hx y hy => ?_⟩
    obtain ⟨i, rfl, h1, h2, h3⟩ := ordP_mem.1 hx
    obtain ⟨j, rfl, k1, k2, k3⟩ := ordI_mem.1 hy
    simp only [ltO, kA, kP, Int.toNat_natCast]
    omega
theorem ordN_sort (h : valE c = 0) : ∀ {n : Nat}, (ordN c n).Pairwise (ltO c)
  | 0 => List.Pairwise.nil
  | n + 1 => by
    refine List.pairwise_append.2 ⟨ordN_sort h, ordP_sort h, fun x hx y hy => ?_⟩
    obtain ⟨i, rfl, h1, h2, h3⟩ := ordN_mem.1 hx
    obtain ⟨j, rfl, k1, k2, k3⟩ := ordP_mem.1 hy
    simp only [ltO, kA, kP, Int.toNat_natCast]
    omega
theorem uniq_list {R : Int → Int → Prop} (ir : ∀ x, ¬ R x x) (asy : ∀ x y, R x y → ¬ R y x) : ∀ {l m : List Int}, l.Pairwise R → m.Pairwise R → (∀ x, x ∈ l ↔ x ∈ m) → l = m
  | [], [], _, _, _ => rfl
  | [], y :: m, _, _, h => absurd ((h y).2 (by simp)) (by simp)
  | x :: l, [], _, _, h => absurd ((h x).1 (by simp)) (by simp)
  | x :: l, y :: m, hl, hm, h => by
    obtain ⟨l1, l2⟩ := List.pairwise_cons.1 hl
    obtain ⟨m1, m2⟩ := List.pairwise_cons.1 hm
    have e : x = y := by
      apply Classical.byContradiction
      intro hne
      have h1 := (h x).1 (by simp)
      have h2 := (h y).2 (by simp)
      rcases List.mem_cons.1 h1 with h1 | h1
      · exact hne h1
      · rcases List.mem_cons.1 h2 with h2 | h2
        · exact hne h2.symm
        · exact asy _ _ (m1 x h1) (l1 y h2)
    subst e
    congr 1
    refine uniq_list ir asy l2 m2 fun z => ?_
    constructor
    · intro hz
      rcases List.mem_cons.1 ((h z).1 (List.mem_cons_of_mem _ hz)) with h1 | h1
      · subst h1; exact absurd (l1 _ hz) (ir _)
      · exact h1
    · intro hz
      rcases List.mem_cons.1 ((h z).2 (List.mem_cons_of_mem _ hz)) with h1 | h1
      · subst h1; exact absurd (m1 _ hz) (ir _)
      · exact h1
def idL (n : Nat) : List Int := (List.range n).map Int.ofNat
theorem idL_len {n : Nat} : (idL n).length = n := by simp [idL]
theorem idL_succ {n : Nat} : idL (n + 1) = idL n ++ [(n : Int)] := by simp [idL, List.range_succ]
theorem idL_mem {n : Nat} {x : Int} : x ∈ idL n ↔ ∃ i : Nat, x = i ∧ i < n := by
  simp only [idL, List.mem_map, List.mem_range]
  constructor
  · rintro ⟨i, h, rfl⟩; exact ⟨i, rfl, h⟩
  · rintro ⟨i, rfl, h⟩; exact ⟨i, h, rfl⟩
theorem ord_eq (h : valE c = 0) {l : List Int} (hp : l.Perm (idL c.length)) (hs : SortR (cfO c) 0 l.length l) : l = ordN c 181 := by
  have nd : l.Nodup := by
    rw [hp.nodup_iff, idL]
    refine List.pairwise_map.2 (List.Pairwise.imp (fun {a b} hab e => ?_) (List.nodup_range (n := c.length)))
    exact hab (Int.ofNat.inj e)
  have hmem : ∀ x, x ∈ l → ∃ i : Nat, x = i ∧ i < c.length := fun x hx => idL_mem.1 (hp.mem_iff.1 hx)
  refine uniq_list (R := ltO c) (fun x hx => by unfold ltO at hx; omega) (fun x y h1 h2 => by unfold ltO at h1 h2; omega) ?_ (ordN_sort h) fun x => ?_
  · rw [List.pairwise_iff_getElem]
    intro i j hi hj hij
    have h1 := cfO_le.1 (hs i j (Nat.zero_le _) hij hj)
    rw [getD_of hi, getD_of hj] at h1
    obtain ⟨a, ea, ha⟩ := hmem l[i] (List.getElem_mem hi)
    obtain ⟨b, eb, hb⟩ := hmem l[j] (List.getElem_mem hj)
    have hne := (List.pairwise_iff_getElem.1 nd) i j hi hj hij
    rw [ea, eb] at h1 hne ⊢
    simp only [ltO, kA, kP, Int.toNat_natCast] at h1 ⊢
    have hab : ¬ a = b := fun e => hne (by rw [e])
    by_cases hx : ageE (c.getD a default) = ageE (c.getD b default) ∧ (c.getD a default).p = (c.getD b default).p
    · exact absurd (age_uniq h ha hb hx.2 hx.1) hab
    · omega
  · rw [hp.mem_iff, idL_mem, ordN_mem]
    constructor
    · rintro ⟨i, rfl, hi⟩
      have r := age_rng h hi
      have q := val_pl h hi
      exact ⟨i, rfl, hi, by omega, by omega⟩
    · rintro ⟨i, rfl, hi, _⟩; exact ⟨i, rfl, hi⟩
def ordR (c : List En) : List Int := if valE c = 0 then ordN c 181 else []
theorem ordI_len {n p k : Nat} : (ordI c n p k).length ≤ k := by
  simp only [ordI, List.length_map]
  exact Nat.le_trans (List.length_filter_le _ _) (by simp)
theorem ordP_len {n : Nat} : ∀ {p : Nat}, (ordP c n p).length ≤ p * c.length
  | 0 => by simp [ordP]
  | p + 1 => by
    rw [ordP, List.length_append, Nat.succ_mul]
    have := ordP_len (n := n) (p := p)
    have := ordI_len (c := c) (n := n) (p := p) (k := c.length)
    omega
theorem ordN_len : ∀ {n : Nat}, (ordN c n).length ≤ n * (3 * c.length)
  | 0 => by simp [ordN]
  | n + 1 => by
    rw [ordN, List.length_append, Nat.succ_mul]
    have := ordN_len (n := n)
    have := ordP_len (c := c) (n := n) (p := 3)
    omega
theorem ordR_len : (ordR c).length ≤ 40000 := by
  unfold ordR
  split
  · rename_i h
    have hl := valE_small h
    have := ordN_len (c := c) (n := 181)
    omega
  · simp
theorem ordR_not (h : valE c = 0) {i k : Nat} (hik : i < k) (hk : k < (ordR c).length) : ∃ a b : Nat, (ordR c).getD i 0 = a ∧ (ordR c).getD k 0 = b ∧ a < c.length ∧ b < c.length ∧ seesB (c.getD a default) (c.getD b default) = false := by
  have e : ordR c = ordN c 181 := by simp [ordR, h]
  rw [e] at hk ⊢
  have hp := (List.pairwise_iff_getElem.1 (ordN_sort h (n := 181))) i k (by omega) hk hik
  obtain ⟨a, ea, ha, _⟩ := ordN_mem.1 (List.getElem_mem (show i < (ordN c 181).length by omega))
  obtain ⟨b, eb, hb, _⟩ := ordN_mem.1 (List.getElem_mem hk)
  refine ⟨a, b, ?_, ?_, ha, hb, ?_⟩
  · rw [List.getD_eq_getElem?_getD, List.getElem?_eq_getElem (by omega)]; exact ea
  · rw [List.getD_eq_getElem?_getD, List.getElem?_eq_getElem hk]; exact eb
  · cases hs : seesB (c.getD a default) (c.getD b default) with
    | false => rfl
    | true =>
      have := sees_age h ha hb hs
      rw [ea, eb] at hp
      simp only [ltO, kA, kP, Int.toNat_natCast] at hp
      omega
end
section
variable {lim : Nat} {H : Hp} {K : V → Hp → Prop} {v w : V} {c : List En} {e f : En} {x y u q : Int}
theorem LstV.keepB {α : Type} {k : Nat} {c : Cod α k} {H H' : Hp} {v : V} {l : List α} (h : LstV c H v l) (hk : ∀ b o n z, v = .sl b o n z → H'[b]? = H[b]?) : LstV c H' v l := by
  cases h with
  | nil => exact .nil
  | empty => exact .empty
  | sl h1 h2 h3 => exact .sl (by rw [hk _ _ _ _ rfl]; exact h1) h2 h3
theorem LstV.below {α : Type} {k : Nat} {c : Cod α k} {H : Hp} {v : V} {l : List α} (h : LstV c H v l) : ∀ b o n z, v = .sl b o n z → b < H.length := by
  rintro b o n z rfl
  cases h with
  | sl h1 _ _ => exact (List.getElem?_eq_some_iff.1 h1).1
theorem cmp_isNaN (hK : K (.bool false) H) : VCall tbl lim 71 [.int .i64 x] H K := by
  refine VCall_fn tbl_at71 rfl ?_
  simp [vf71]
  exact hK
theorem cmp_Compare (hK : K (.int .i64 (cmpI x y)) H) : VCall tbl lim 56 [.int .i64 x, .int .i64 y] H K := by
  refine VCall_fn tbl_at56 rfl ?_
  simp [vf56]
  refine cmp_isNaN ?_
  simp
  refine cmp_isNaN ?_
  simp
  refine cond_dec (fun h => ?_) fun h => ?_
  · simp; simpa [cmpI, h] using hK
  · simp
    refine cond_dec (fun h2 => ?_) fun h2 => ?_
    · simp; simpa [cmpI, h, h2] using hK
    · simp; simpa [cmpI, h, h2] using hK
theorem cmp_Or (hs : SlV H v [u, q]) (hK : K (.int .i64 (if u ≠ 0 then u else q)) H) : VCall tbl lim 55 [v] H K := by
  refine VCall_fn tbl_at55 rfl ?_
  have a0 := hs.addr (i := 0) (by simp)
  have a1 := hs.addr (i := 1) (by simp)
  have g0 := hs.load (L := []) (i := 0) (by simp)
  have g1 := hs.load (L := []) (i := 1) (by simp)
  simp [List.getD_eq_getElem?_getD] at a0 a1 g0 g1
  by_cases h : u = 0
  · subst h
    simp only [ne_eq, not_true_eq_false, if_false] at hK
    by_cases h2 : q = 0
    · subst h2
      simp [vf55, hs.len]
      refine wLoop_round ?_
      simp [a0, g0, wrap_i64]
      refine wLoop_round ?_
      simp [a1, g1, wrap_i64]
      refine wLoop_round ?_
      simp
      exact hK
    · simp [vf55, hs.len]
      refine wLoop_round ?_
      simp [a0, g0, wrap_i64]
      refine wLoop_round ?_
      simp [a1, g1, wrap_i64, h2]
      exact hK
  · rw [if_pos h] at hK
    simp [vf55, hs.len]
    refine wLoop_round ?_
    simp [a0, g0, wrap_i64, h]
    exact hK
theorem card_age (h : (0 ≤ e.a ∧ e.a ≤ 60) ∧ (0 ≤ e.b ∧ e.b ≤ 60) ∧ (0 ≤ e.c ∧ e.c ≤ 60)) (hK : K (.int .i64 (ageE e)) H) : VCall tbl lim 57 [.agg e.cells] H K := by
  refine VCall_fn tbl_at57 rfl ?_
  simp (disch := omega) [vf57, En.cells, wrap_i64]
  exact hK
theorem ref_age (h : (0 ≤ e.a ∧ e.a ≤ 60) ∧ (0 ≤ e.b ∧ e.b ≤ 60) ∧ (0 ≤ e.c ∧ e.c ≤ 60)) (hK : K (.int .i64 (ageE e)) H) : VCall tbl lim 72 [.agg e.cells] H K := by
  refine VCall_fn tbl_at72 rfl ?_
  simp (disch := omega) [vf72, En.cells, wrap_i64]
  exact hK
theorem comp_rng (h : valE c = 0) {i : Nat} (hi : i < c.length) : (0 ≤ (c.getD i default).a ∧ (c.getD i default).a ≤ 60) ∧ (0 ≤ (c.getD i default).b ∧ (c.getD i default).b ≤ 60) ∧ (0 ≤ (c.getD i default).c ∧ (c.getD i default).c ≤ 60) := by
  have s := (valE_ok h hi).2.2
  simp only [seenR, Bool.and_eq_true] at s
  have r := s.1.2
  simp only [rangB, Bool.and_eq_true, decide_eq_true_eq] at r
  have l := valE_small h
  have c0 := cntE_le (c := c) (q := 0) (n := c.length)
  have c1 := cntE_le (c := c) (q := 1) (n := c.length)
  have c2 := cntE_le (c := c) (q := 2) (n := c.length)
  omega
theorem ord_cmp {b B : Nat} (hB : H[B]? = some (.row [v] true)) (hbB : B ≠ b) (hvb : ∀ b0 o k z, v = .sl b0 o k z → b0 ≠ b) (hv : LstV enC H v c) (hval : valE c = 0) {l : List Int} (hl : ∀ x ∈ l, 0 ≤ x ∧ x < c.length) :
    CmpQ b 54 [] [.ptr B 0] H l (cfO c) := by
  intro H' lim x y K hx hy hlen hsame hK
  have hBl := (List.getElem?_eq_some_iff.1 hB).1
  have hv' : LstV enC H' v c := hv.keepB fun b0 o k z e => hsame b0 (hv.below b0 o k z e) (hvb b0 o k z e)
  have hB' : H'[B]? = some (.row [v] true) := by rw [hsame B hBl hbB]; exact hB
  have h1 := hl x hx
  have h2 := hl y hy
  have rd1 : rd none [v] 0 = some v := Eq.trans rfl rfl
  have fj : ∀ i, i < c.length → ∀ j, vfaddr j (ept 6 v i) = some (eptf 6 v i j) := fun i hi j => hv'.faddr hi
  have ld : ∀ L, vload none L H' (.ptr B 0) = some v := fun L => by rw [vload_ptr hB']; rfl
  show VCall tbl lim 54 [.int .i64 x, .int .i64 y, .ptr B 0] H' K
  refine VCall_fn tbl_at54 rfl ?_
  have c1 := comp_rng hval (i := x.toNat) (by omega)
  have c2 := comp_rng hval (i := y.toNat) (by omega)
  simp (disch := omega) [vf54, ld, hv'.addr, en_load hv', lpId_eptf, -vload_ptrO]
  refine card_age (e := c.getD x.toNat default) c1 ?_
  simp (disch := omega) [ld, hv'.addr, en_load hv', lpId_eptf, -vload_ptrO]
  refine card_age (e := c.getD y.toNat default) c2 ?_
  simp
  refine cmp_Compare ?_
  simp (disch := omega) [ld, hv'.addr, fj, en_get hv', lpId_eptf, -vload_ptrO]
  refine cmp_Compare ?_
  simp [vbslice_some]
  have hs : SlV (H' ++ [.row [.int .i64 (cmpI (ageE (c.getD x.toNat default)) (ageE (c.getD y.toNat default))), .int .i64 (cmpI (c.getD x.toNat default).p (c.getD y.toNat default).p)] true]) (.sl H'.length 0 2 1) [cmpI (ageE (c.getD x.toNat default)) (ageE (c.getD y.toNat default)), cmpI (c.getD x.toNat default).p (c.getD y.toNat default).p] := SlV.lit (l := [_, _]) (by rw [List.getElem?_concat_length]; rfl) rfl
  refine cmp_Or hs ?_
  have hK := hK _ (HX.push (x := .row [.int .i64 (cmpI (ageE (c.getD x.toNat default)) (ageE (c.getD y.toNat default))), .int .i64 (cmpI (c.getD x.toNat default).p (c.getD y.toNat default).p)] true))
  unfold cfO kA kP at hK
  simp
  simpa using hK
end
end Go.Proofs.Ytlkoedoannjojaa.Vm
