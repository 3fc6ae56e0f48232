/- Package plot over the machine: windows that exclude a plan; PlotProofs. -/
import Derived.Test.YtdipmhdekjlifaaPlJ
namespace Go.Proofs.Ytdipmhdekjlifaa.Vm
open Go
set_option maxRecDepth 100000
set_option linter.unusedSimpArgs false
set_option linter.unusedVariables false
attribute [-simp] List.getD_eq_getElem?_getD
def sumW (S : List Int) (a : Nat) : Nat → Int
  | 0 => 0
  | n + 1 => sumW S a n + S.getD (a + n) 0
def inJ (J : List Jb) (a b : Nat) : Nat → Int
  | 0 => 0
  | n + 1 => inJ J a b n + if (a : Int) ≤ (J.getD n default).r ∧ (J.getD n default).d ≤ b then (J.getD n default).w else 0
def spareP (S : List Int) (J : List Jb) (a b : Nat) : Int := sumW S a (b + 1 - a) - inJ J a b J.length
def spareR (S : List Int) (J : List Jb) (x y : Int) : Int × Int := if valJ S J ≠ 0 then (0, valJ S J) else if 0 ≤ x ∧ x ≤ y ∧ y < S.length then (spareP S J x.toNat y.toNat, 0) else (0, 1)
def firstO {α : Type} (g : Nat → Option α) : Nat → Option α
  | 0 => none
  | n + 1 => match firstO g n with
    | some x => some x
    | none => g n
theorem firstO_at {α : Type} {g : Nat → Option α} {i : Nat} {x : α} (h0 : firstO g i = none) (hg : g i = some x) : ∀ {n : Nat}, i < n → firstO g n = some x
  | n + 1, h => by
    by_cases e : i = n
    · subst e; simp [firstO, h0, hg]
    · simp only [firstO, firstO_at h0 hg (n := n) (by omega)]
theorem firstO_none {α : Type} {g : Nat → Option α} : ∀ {n : Nat}, firstO g n = none ↔ ∀ i, i < n → g i = none
  | 0 => by simp [firstO]
  | n + 1 => by
    constructor
    · intro h i hi
      have hn : firstO g n = none := by
        cases hq : firstO g n with
        | none => rfl
        | some x => simp [firstO, hq] at h
      by_cases e : i = n
      · subst e; simpa [firstO, hn] using h
      · exact firstO_none.1 hn i (by omega)
    · intro h
      have hn := firstO_none (n := n).2 fun i hi => h i (by omega)
      simp [firstO, hn, h n (by omega)]
def winG (S : List Int) (J : List Jb) (a k : Nat) : Option (Nat × Nat) := if spareP S J a (a + k) < 0 then some (a, a + k) else none
def winO (S : List Int) (J : List Jb) (a : Nat) : Option (Nat × Nat) := firstO (winG S J a) (S.length - a)
def proofO (S : List Int) (J : List Jb) : Option (Nat × Nat) := if valJ S J = 0 then firstO (winO S J) S.length else none
def proofT (S : List Int) (J : List Jb) : V := match proofO S J with
  | some (a, b) => .tup [.int .i64 a, .int .i64 b, .bool true, .int .i64 0]
  | none => .tup [.int .i64 0, .int .i64 0, .bool false, .int .i64 (valJ S J)]
theorem sumW_bd {S : List Int} (h : ∀ i, i < S.length → 0 ≤ S.getD i 0 ∧ S.getD i 0 ≤ 1440) {a : Nat} : ∀ {n : Nat}, a + n ≤ S.length → 0 ≤ sumW S a n ∧ sumW S a n ≤ 1440 * n
  | 0, _ => by simp [sumW]
  | n + 1, hn => by
    have ih := sumW_bd h (a := a) (n := n) (by omega)
    have := h (a + n) (by omega)
    simp only [sumW]; omega
theorem inJ_bd {J : List Jb} {m : Nat} {a b : Nat} : ∀ {n : Nat}, (∀ i, i < n → 0 ≤ (J.getD i default).w ∧ (J.getD i default).w ≤ 20000) → 0 ≤ inJ J a b n ∧ inJ J a b n ≤ 20000 * n
  | 0, _ => by simp [inJ]
  | n + 1, h => by
    have ih := inJ_bd (J := J) (m := m) (a := a) (b := b) (n := n) fun i hi => h i (by omega)
    have := h n (by omega)
    simp only [inJ]; split <;> omega
theorem vbounds_two {n a b : Nat} {k k' : IntKind} (h : a ≤ b ∧ b ≤ n) : vbounds n (some (.int k a)) (some (.int k' b)) = some (a, b) := by
  simp only [vbounds, vint]
  rw [if_pos (by omega), if_pos (by omega)]; simp
section
variable {lim : Nat} {H : Hp} {K : V → Hp → Prop} {sv jv qv : V} {S : List Int} {J : List Jb} {x y : Int}
theorem plot_spare (hs : SlV H sv S) (hj : LstV jbC H jv J) (hval : valJ S J = 0) {a b : Nat} (hab : a ≤ b ∧ b < S.length) (hK : K (.int .i64 (spareP S J a b)) H) : VCall tbl lim 76 [sv, jv, .int .i64 a, .int .i64 b] H K := by
  refine VCall_fn tbl_at76 rfl ?_
  obtain ⟨g1, g2, g3, g4⟩ := valJ_ok hval
  have hsub := hs.sub (a := a) (b := b + 1) ⟨by omega, by omega⟩
  have hsl : ((S.drop a).take (b + 1 - a)).length = b + 1 - a := by simp; omega
  have hget : ∀ i, i < b + 1 - a → ((S.drop a).take (b + 1 - a)).getD i 0 = S.getD (a + i) 0 := fun i hi => by
    simp only [List.getD_eq_getElem?_getD, List.getElem?_take_of_lt hi, List.getElem?_drop]
  have hbd : vslS 1 sv (some (.int .i64 (a : Int))) (some (.int .i64 ((b : Int) + 1))) = some (subV sv a (b + 1)) := by
    have := hs.subW (a := a) (b := b + 1) ⟨by omega, by omega⟩ (by omega) (vbounds_two (k := .i64) (k' := .i64) ⟨by omega, by omega⟩)
    simpa using this
  simp (disch := omega) [vf76, wrap_i64, hbd, hsub.len, hsl]
  have ecast : ((b : Int) + 1 - a) = ((b + 1 - a : Nat) : Int) := by omega
  refine wLoop_up (b + 1 - a) (fun i fr L H' => (fr 1 = jv ∧ fr 2 = .int .i64 a ∧ fr 3 = .int .i64 b ∧ fr 18 = subV sv a (b + 1) ∧ fr 19 = .int .i64 ((b + 1 - a : Nat) : Int) ∧ fr 20 = .int .i64 i ∧ fr 9 = .int .i64 (sumW S a i)) ∧ H' = H) ⟨by simp [hsl, sumW], rfl⟩ ?_
  rintro i hi fr L H' ⟨⟨f1, f2, f3, f18, f19, f20, f9⟩, e0⟩
  have e0 := e0.symm
  subst e0
  simp [f1, f2, f3, f18, f19, f20, f9]
  refine cond_dec (fun ht => ?_) fun hfl => ?_
  · have ht : i < b + 1 - a := by omega
    have a1 := hsub.addr (i := i) (by omega)
    simp only [Int.toNat_natCast] at a1
    have hld := fun L => hsub.load (i := i) (by omega) (L := L)
    rw [hget i ht] at hld
    have hb := sumW_bd g3 (a := a) (n := i) (by omega)
    have hg := g3 (a + i) (by omega)
    simp (disch := omega) [f1, f2, f3, f18, f19, f20, f9, a1, hld, lpId_ept, wrap_i64, sumW]
    omega
  have : i = b + 1 - a := by omega
  subst this
  have hb := sumW_bd g3 (a := a) (n := b + 1 - a) (by omega)
  simp [f1, hj.len]
  refine wLoop_up J.length (fun i fr L H' => (fr 2 = .int .i64 a ∧ fr 3 = .int .i64 b ∧ fr 28 = jv ∧ fr 29 = .int .i64 J.length ∧ fr 30 = .int .i64 i ∧ fr 9 = .int .i64 (sumW S a (b + 1 - a) - inJ J a b i)) ∧ H' = H) ⟨by simp [f2, f3, f9, hj.len, inJ], rfl⟩ ?_
  clear f1 f2 f3 f18 f19 f20 f9
  rintro i hi fr L H' ⟨⟨f2, f3, f28, f29, f30, f9⟩, e0⟩
  have e0 := e0.symm
  subst e0
  simp [f2, f3, f28, f29, f30, f9]
  refine cond_dec (fun ht => ?_) fun hfl => ?_
  · have ht : i < J.length := by omega
    have hib := inJ_bd (J := J) (m := 0) (a := a) (b := b) (n := i) fun k hk => by have := g4 k (by omega); omega
    have hgi := g4 i ht
    by_cases h1 : (a : Int) ≤ (J.getD i default).r
    · by_cases h2 : (J.getD i default).d ≤ b
      · have e : inJ J a b (i + 1) = inJ J a b i + (J.getD i default).w := by simp only [inJ, h1, h2, and_self, if_true]
        simp (disch := omega) [f2, f3, f28, f29, f30, f9, hj.at ht, jb_load hj, lastO, lastS, splice33, h1, h2, wrap_i64, e]
        omega
      · have e : inJ J a b (i + 1) = inJ J a b i := by simp only [inJ, h2, and_false, if_false]; omega
        simp (disch := omega) [f2, f3, f28, f29, f30, f9, hj.at ht, jb_load hj, lastO, lastS, splice33, h1, h2, wrap_i64, e]
        omega
    · have e : inJ J a b (i + 1) = inJ J a b i := by simp only [inJ, h1, false_and, if_false]; omega
      simp (disch := omega) [f2, f3, f28, f29, f30, f9, hj.at ht, jb_load hj, lastO, lastS, splice33, h1, wrap_i64, e]
      omega
  have : i = J.length := by omega
  subst this
  simp [f9]
  exact hK
theorem ref_spare (hs : SlV H sv S) (hj : LstV jbC H jv J) (hval : valJ S J = 0) {a b : Nat} (hab : a ≤ b ∧ b < S.length) (hK : K (.int .i64 (spareP S J a b)) H) : VCall tbl lim 75 [sv, jv, .int .i64 a, .int .i64 b] H K := by
  refine VCall_fn tbl_at75 rfl ?_
  obtain ⟨g1, g2, g3, g4⟩ := valJ_ok hval
  have fj : ∀ i, i < J.length → ∀ j, vfaddr j (ept 3 jv i) = some (eptf 3 jv i j) := fun i hi j => hj.faddr hi
  simp [vf75]
  refine wLoop_up (b + 1 - a) (fun i fr L H' => (fr 0 = sv ∧ fr 1 = jv ∧ fr 2 = .int .i64 a ∧ fr 3 = .int .i64 b ∧ fr 10 = .int .i64 ((a + i : Nat) : Int) ∧ fr 9 = .int .i64 (sumW S a i)) ∧ H' = H) ⟨by simp [sumW], rfl⟩ ?_
  rintro i hi fr L H' ⟨⟨f0, f1, f2, f3, f10, f9⟩, e0⟩
  have e0 := e0.symm
  subst e0
  simp [f0, f1, f2, f3, f10, f9]
  refine cond_dec (fun ht => ?_) fun hfl => ?_
  · have ht : i < b + 1 - a := by omega
    have a1 := hs.addr (i := ((a + i : Nat) : Int)) (by omega)
    simp only [Int.toNat_natCast, Int.natCast_add] at a1
    have hb := sumW_bd g3 (a := a) (n := i) (by omega)
    have hg := g3 (a + i) (by omega)
    have et : ((a : Int) + (i : Int)).toNat = a + i := by omega
    simp (disch := omega) [f0, f1, f2, f3, f10, f9, a1, et, hs.load, lpId_ept, wrap_i64, sumW]
    omega
  have : i = b + 1 - a := by omega
  subst this
  have hb := sumW_bd g3 (a := a) (n := b + 1 - a) (by omega)
  simp
  refine wLoop_up J.length (fun i fr L H' => (fr 1 = jv ∧ fr 2 = .int .i64 a ∧ fr 3 = .int .i64 b ∧ fr 11 = .int .i64 i ∧ fr 9 = .int .i64 (sumW S a (b + 1 - a) - inJ J a b i)) ∧ H' = H) ⟨by simp [f1, f2, f3, f9, inJ], rfl⟩ ?_
  clear f0 f1 f2 f3 f10 f9
  rintro i hi fr L H' ⟨⟨f1, f2, f3, f11, f9⟩, e0⟩
  have e0 := e0.symm
  subst e0
  simp [f1, f2, f3, f11, f9, hj.len]
  refine cond_dec (fun ht => ?_) fun hfl => ?_
  · have ht : i < J.length := by omega
    have hib := inJ_bd (J := J) (m := 0) (a := a) (b := b) (n := i) fun k hk => by have := g4 k (by omega); omega
    have hgi := g4 i ht
    by_cases h1 : (a : Int) ≤ (J.getD i default).r
    · by_cases h2 : (J.getD i default).d ≤ b
      · have e : inJ J a b (i + 1) = inJ J a b i + (J.getD i default).w := by simp only [inJ, h1, h2, and_self, if_true]
        simp (disch := omega) [f1, f2, f3, f11, f9, hj.at ht, fj i ht, jb_get hj, lpId_eptf, h1, h2, wrap_i64, e]
        omega
      · have e : inJ J a b (i + 1) = inJ J a b i := by simp only [inJ, h2, and_false, if_false]; omega
        simp (disch := omega) [f1, f2, f3, f11, f9, hj.at ht, fj i ht, jb_get hj, lpId_eptf, h1, h2, wrap_i64, e]
        omega
    · have e : inJ J a b (i + 1) = inJ J a b i := by simp only [inJ, h1, false_and, if_false]; omega
      simp (disch := omega) [f1, f2, f3, f11, f9, hj.at ht, fj i ht, jb_get hj, lpId_eptf, h1, wrap_i64, e]
      omega
  have : i = J.length := by omega
  subst this
  simp [f9]
  exact hK
theorem plot_Spare (hs : SlV H sv S) (hj : LstV jbC H jv J) (hK : K (.tup [.int .i64 (spareR S J x y).1, .int .i64 (spareR S J x y).2]) H) : VCall tbl lim 51 [sv, jv, .int .i64 x, .int .i64 y] H K := by
  refine VCall_fn tbl_at51 rfl ?_
  simp [vf51, hs.stor, hj.stor]
  refine plot_ValidateJobs hs hj ?_
  by_cases hval : valJ S J = 0
  case neg => simp [hval]; simpa [spareR, hval] using hK
  simp [hval, hs.stor]
  refine plot_isWindow hs ?_
  by_cases hw : 0 ≤ x ∧ x ≤ y ∧ y < S.length
  · obtain ⟨x', rfl⟩ := Int.eq_ofNat_of_zero_le (show 0 ≤ x by omega)
    obtain ⟨y', rfl⟩ := Int.eq_ofNat_of_zero_le (show 0 ≤ y by omega)
    have hR : spareR S J x' y' = (spareP S J x' y', 0) := by simp only [spareR, hval, ne_eq, not_true_eq_false, if_false, hw, and_self, if_true, Int.toNat_natCast]
    rw [hR] at hK
    simp only [hw, and_self, decide_true]
    simp [hs.stor, hj.stor]
    refine plot_spare hs hj hval ⟨by omega, by omega⟩ ?_
    simp; exact hK
  · have hR : spareR S J x y = (0, 1) := by simp only [spareR, hval, ne_eq, not_true_eq_false, if_false, hw]
    rw [hR] at hK
    simp only [hw, decide_false]
    simp; exact hK
theorem ref_Spare (hs : SlV H sv S) (hj : LstV jbC H jv J) (hK : K (.tup [.int .i64 (spareR S J x y).1, .int .i64 (spareR S J x y).2]) H) : VCall tbl lim 52 [sv, jv, .int .i64 x, .int .i64 y] H K := by
  refine VCall_fn tbl_at52 rfl ?_
  simp [vf52, hs.stor, hj.stor]
  refine ref_ValidateJobs hs hj ?_
  by_cases hval : valJ S J = 0
  case neg => simp [hval]; simpa [spareR, hval] using hK
  simp [hval, hs.len]
  refine cond_bool (fun hb => ?_) fun hb => ?_
  · have hw : ¬ (0 ≤ x ∧ x ≤ y ∧ y < S.length) := by simp at hb; omega
    have hR : spareR S J x y = (0, 1) := by simp only [spareR, hval, ne_eq, not_true_eq_false, if_false, hw]
    rw [hR] at hK
    simp; exact hK
  · have hw : 0 ≤ x ∧ x ≤ y ∧ y < S.length := by simp at hb; omega
    obtain ⟨x', rfl⟩ := Int.eq_ofNat_of_zero_le (show 0 ≤ x by omega)
    obtain ⟨y', rfl⟩ := Int.eq_ofNat_of_zero_le (show 0 ≤ y by omega)
    have hR : spareR S J x' y' = (spareP S J x' y', 0) := by simp only [spareR, hval, ne_eq, not_true_eq_false, if_false, hw, and_self, if_true, Int.toNat_natCast]
    rw [hR] at hK
    simp [hs.stor, hj.stor]
    refine ref_spare hs hj hval ⟨by omega, by omega⟩ ?_
    simp; exact hK
theorem plot_IsProof (hs : SlV H sv S) (hj : LstV jbC H jv J) (hK : K (.tup [.bool (decide ((spareR S J x y).1 < 0)), .int .i64 (spareR S J x y).2]) H) : VCall tbl lim 53 [sv, jv, .int .i64 x, .int .i64 y] H K := by
  refine VCall_fn tbl_at53 rfl ?_
  simp [vf53, hs.stor, hj.stor]
  refine plot_Spare hs hj ?_
  simp; exact hK
theorem ref_IsProof (hs : SlV H sv S) (hj : LstV jbC H jv J) (hK : K (.tup [.bool (decide ((spareR S J x y).1 < 0)), .int .i64 (spareR S J x y).2]) H) : VCall tbl lim 54 [sv, jv, .int .i64 x, .int .i64 y] H K := by
  refine VCall_fn tbl_at54 rfl ?_
  simp [vf54, hs.stor, hj.stor]
  refine ref_Spare hs hj ?_
  have e : (decide ((spareR S J x y).2 = 0) && decide ((spareR S J x y).1 < 0)) = decide ((spareR S J x y).1 < 0) := by
    by_cases h : (spareR S J x y).2 = 0
    · simp [h]
    · have : (spareR S J x y).1 = 0 := by
        unfold spareR at h ⊢
        split
        · rfl
        · split
          · rename_i h1 h2; simp [h1, h2] at h
          · rfl
      simp [this]
  simp [e]; exact hK
theorem proof_loop {f : FuncId} (hs : SlV H sv S) : True := trivial
theorem plot_Proof (hs : SlV H sv S) (hj : LstV jbC H jv J) (hK : K (proofT S J) H) : VCall tbl lim 55 [sv, jv] H K := by
  refine VCall_fn tbl_at55 rfl ?_
  simp [vf55, hs.stor, hj.stor]
  refine plot_ValidateJobs hs hj ?_
  by_cases hval : valJ S J = 0
  case neg => simp [hval]; simpa [proofT, proofO, hval] using hK
  obtain ⟨g1, g2, g3, g4⟩ := valJ_ok hval
  have hpO : proofO S J = firstO (winO S J) S.length := by simp only [proofO, hval, if_true]
  simp [hval, hs.len]
  refine wLoop_up S.length (fun a fr L H' => (fr 0 = sv ∧ fr 1 = jv ∧ fr 18 = .int .i64 S.length ∧ fr 19 = .int .i64 a) ∧ H' = H ∧ firstO (winO S J) a = none) ⟨by simp [hs.len], rfl, rfl⟩ ?_
  rintro a ha fr L H' ⟨⟨f0, f1, f18, f19⟩, e0, hz⟩
  have e0 := e0.symm
  subst e0
  simp [f0, f1, f18, f19]
  refine cond_dec (fun ht => ?_) fun hfl => ?_
  · have ht : a < S.length := by omega
    simp
    refine wLoop_up (S.length - a) (fun k fr L H' => (fr 0 = sv ∧ fr 1 = jv ∧ fr 18 = .int .i64 S.length ∧ fr 19 = .int .i64 a ∧ fr 9 = .int .i64 a ∧ fr 10 = .int .i64 ((a + k : Nat) : Int)) ∧ H' = H ∧ firstO (winG S J a) k = none) ⟨by simp [f0, f1, f18, f19], rfl, rfl⟩ ?_
    clear f0 f1 f18 f19
    rintro k hk fr L H' ⟨⟨f0, f1, f18, f19, f9, f10⟩, e0, hz2⟩
    have e0 := e0.symm
    subst e0
    simp [f0, f1, f18, f19, f9, f10, hs.len]
    refine cond_dec (fun ht2 => ?_) fun hfl2 => ?_
    · have ht2 : k < S.length - a := by omega
      simp [f0, f1, f18, f19, f9, f10, hs.stor, hj.stor]
      have key := fun K => plot_spare (lim := lim) (K := K) hs hj hval (a := a) (b := a + k) ⟨by omega, by omega⟩
      simp only [Int.natCast_add] at key
      refine key _ ?_
      simp
      refine cond_dec (fun hc => ?_) fun hc => ?_
      · have e1 : winG S J a k = some (a, a + k) := by simp only [winG, hc, if_true]
        have e2 := firstO_at hz (firstO_at hz2 e1 ht2 : winO S J a = some (a, a + k)) ht
        simp only [proofT, hpO, e2] at hK
        simp [f9, f10]
        simpa using hK
      · have e1 : winG S J a k = none := by simp only [winG, hc, if_false]
        have e3 : firstO (winG S J a) (k + 1) = none := by simp only [firstO, hz2, e1]
        simp (disch := omega) [f0, f1, f18, f19, f9, f10, wrap_i64, e3]
        omega
    · have : k = S.length - a := by omega
      subst this
      have e3 : firstO (winO S J) (a + 1) = none := by simp only [firstO, hz]; exact hz2
      simp (disch := omega) [f0, f1, f18, f19, f9, f10, wrap_i64, e3]
      omega
  have : a = S.length := by omega
  subst this
  simp only [proofT, hpO, hz, hval] at hK
  simp; exact hK
theorem ref_Proof (hs : SlV H sv S) (hj : LstV jbC H jv J) (hK : K (proofT S J) H) : VCall tbl lim 50 [sv, jv] H K := by
  refine VCall_fn tbl_at50 rfl ?_
  simp [vf50, hs.stor, hj.stor]
  refine ref_ValidateJobs hs hj ?_
  by_cases hval : valJ S J = 0
  case neg => simp [hval]; simpa [proofT, proofO, hval] using hK
  obtain ⟨g1, g2, g3, g4⟩ := valJ_ok hval
  have hpO : proofO S J = firstO (winO S J) S.length := by simp only [proofO, hval, if_true]
  simp [hval, hs.len]
  refine wLoop_up S.length (fun a fr L H' => (fr 0 = sv ∧ fr 1 = jv ∧ fr 9 = .int .i64 a) ∧ H' = H ∧ firstO (winO S J) a = none) ⟨by simp [hs.len], rfl, rfl⟩ ?_
  rintro a ha fr L H' ⟨⟨f0, f1, f9⟩, e0, hz⟩
  have e0 := e0.symm
  subst e0
  simp [f0, f1, f9, hs.len]
  refine cond_dec (fun ht => ?_) fun hfl => ?_
  · have ht : a < S.length := by omega
    simp [f9]
    refine wLoop_up (S.length - a) (fun k fr L H' => (fr 0 = sv ∧ fr 1 = jv ∧ fr 9 = .int .i64 a ∧ fr 10 = .int .i64 ((a + k : Nat) : Int)) ∧ H' = H ∧ firstO (winG S J a) k = none) ⟨by simp [f0, f1, f9], rfl, rfl⟩ ?_
    clear f0 f1 f9
    rintro k hk fr L H' ⟨⟨f0, f1, f9, f10⟩, e0, hz2⟩
    have e0 := e0.symm
    subst e0
    simp [f0, f1, f9, f10, hs.len]
    refine cond_dec (fun ht2 => ?_) fun hfl2 => ?_
    · have ht2 : k < S.length - a := by omega
      simp [f0, f1, f9, f10, hs.stor, hj.stor]
      have key := fun K => ref_spare (lim := lim) (K := K) hs hj hval (a := a) (b := a + k) ⟨by omega, by omega⟩
      simp only [Int.natCast_add] at key
      refine key _ ?_
      simp
      refine cond_dec (fun hc => ?_) fun hc => ?_
      · have e1 : winG S J a k = some (a, a + k) := by simp only [winG, hc, if_true]
        have e2 := firstO_at hz (firstO_at hz2 e1 ht2 : winO S J a = some (a, a + k)) ht
        simp only [proofT, hpO, e2] at hK
        simp [f9, f10]
        simpa using hK
      · have e1 : winG S J a k = none := by simp only [winG, hc, if_false]
        have e3 : firstO (winG S J a) (k + 1) = none := by simp only [firstO, hz2, e1]
        simp (disch := omega) [f0, f1, f9, f10, wrap_i64, e3]
        omega
    · have : k = S.length - a := by omega
      subst this
      have e3 : firstO (winO S J) (a + 1) = none := by simp only [firstO, hz]; exact hz2
      simp (disch := omega) [f0, f1, f9, f10, wrap_i64, e3]
      omega
  have : a = S.length := by omega
  subst this
  simp only [proofT, hpO, hz, hval] at hK
  simp; exact hK
theorem law_PlotProofs {ws : List V} {p : Shp} (hv : ShpV H ws p) (hlim : lim ≤ H.length) (hx : I64 x) (hy : I64 y) (hK : ∀ H', K (.bool true) H') : VCall tbl lim 14 [.agg ws, .agg [.int .i64 x, .int .i64 y]] H K := by
  cases hv with
  | mk hs hj =>
    rename_i sv jv S J
    refine VCall_fn tbl_at14 rfl ?_
    simp [vf14, hs.stor, hj.stor, hs.one]
    refine law_wide hs hj ?_
    refine cond_bool (fun h => ?_) fun h => ?_
    · simp
      refine law_known hlim fun H1 _ => ?_
      simp; exact hK _
    simp [hs.stor, hj.stor]
    refine plot_Spare hs hj ?_
    simp [hs.stor, hj.stor]
    refine ref_Spare hs hj ?_
    simp [hs.stor, hj.stor]
    refine plot_IsProof hs hj ?_
    simp [hs.stor, hj.stor]
    refine ref_IsProof hs hj ?_
    simp [hs.stor, hj.stor]
    refine plot_Proof hs hj ?_
    cases hp : proofO S J with
    | none =>
      simp [proofT, hp, hs.stor, hj.stor]
      refine ref_Proof hs hj ?_
      simp [proofT, hp]
      refine law_known hlim fun H1 _ => ?_
      simp; exact hK _
    | some ab =>
      obtain ⟨a, b⟩ := ab
      simp [proofT, hp, hs.stor, hj.stor]
      refine ref_Proof hs hj ?_
      simp [proofT, hp]
      refine law_known hlim fun H1 _ => ?_
      simp; exact hK _
end
end Go.Proofs.Ytdipmhdekjlifaa.Vm
