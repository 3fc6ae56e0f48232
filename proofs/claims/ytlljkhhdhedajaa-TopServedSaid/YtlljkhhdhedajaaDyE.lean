/- Package dye over the machine: lots and wants; DyeNears. -/
import Derived.Test.YtlljkhhdhedajaaDyD
namespace Go.Proofs.Ytlljkhhdhedajaa.Vm
open Go
set_option maxRecDepth 100000
set_option linter.unusedSimpArgs false
set_option linter.unusedVariables false
attribute [-simp] List.getD_eq_getElem?_getD

structure Trd where
  A : List Lot
  B : List Wnt
def Lot.in64 (e : Lot) : Prop := I64 e.w ∧ I64 e.l ∧ I64 e.t ∧ I64 e.b
def Wnt.in64 (e : Wnt) : Prop := I64 e.w ∧ I64 e.l ∧ I64 e.t ∧ I64 e.b ∧ I64 e.n
/-- the cells of lots and wants -/
inductive TrdV (H : Hp) : List V → Trd → Prop
  | mk {av bv : V} {A : List Lot} {B : List Wnt} : LstV lotC H av A → LstV wntC H bv B → TrdV H [av, bv] ⟨A, B⟩
theorem trd_of {H : Hp} {ws : List V} {ds : List CD} (h : RepTs H [.sl [cInt, cInt, cInt, cInt], .sl [cInt, cInt, cInt, cInt, cInt]] ws ds) : ∃ f, TrdV H ws f := by
  obtain ⟨v0, u0, _, _, rfl, _, p0, q0⟩ := reps_cons h
  obtain ⟨v1, u1, _, _, rfl, _, p1, q1⟩ := reps_cons q0
  have e := reps_nil q1
  subst e
  obtain ⟨l1, h1, _, _⟩ := lst_of (c := lotC) rfl (fun z => True) (fun vs ds h => by
    obtain ⟨v0, u0, _, _, rfl, _, p0, q0⟩ := reps_cons h
    obtain ⟨v1, u1, _, _, rfl, _, p1, q1⟩ := reps_cons q0
    obtain ⟨v2, u2, _, _, rfl, _, p2, q2⟩ := reps_cons q1
    obtain ⟨v3, u3, _, _, rfl, _, p3, q3⟩ := reps_cons q2
    have e := reps_nil q3
    subst e
    obtain ⟨n0, rfl, c0⟩ := int_of p0
    obtain ⟨n1, rfl, c1⟩ := int_of p1
    obtain ⟨n2, rfl, c2⟩ := int_of p2
    obtain ⟨n3, rfl, c3⟩ := int_of p3
    exact ⟨⟨n0, n1, n2, n3⟩, rfl, trivial⟩) p0
  obtain ⟨l2, h2, _, _⟩ := lst_of (c := wntC) rfl (fun z => True) (fun vs ds h => by
    obtain ⟨v0, u0, _, _, rfl, _, p0, q0⟩ := reps_cons h
    obtain ⟨v1, u1, _, _, rfl, _, p1, q1⟩ := reps_cons q0
    obtain ⟨v2, u2, _, _, rfl, _, p2, q2⟩ := reps_cons q1
    obtain ⟨v3, u3, _, _, rfl, _, p3, q3⟩ := reps_cons q2
    obtain ⟨v4, u4, _, _, rfl, _, p4, q4⟩ := reps_cons q3
    have e := reps_nil q4
    subst e
    obtain ⟨n0, rfl, c0⟩ := int_of p0
    obtain ⟨n1, rfl, c1⟩ := int_of p1
    obtain ⟨n2, rfl, c2⟩ := int_of p2
    obtain ⟨n3, rfl, c3⟩ := int_of p3
    obtain ⟨n4, rfl, c4⟩ := int_of p4
    exact ⟨⟨n0, n1, n2, n3, n4⟩, rfl, trivial⟩) p1
  exact ⟨⟨l1, l2⟩, .mk h1 h2⟩

section
variable {lim : Nat} {H : Hp} {K : V → Hp → Prop} {av bv : V} {A : List Lot} {B : List Wnt}
theorem law_wide (ha : LstV lotC H av A) (hb : LstV wntC H bv B) (hK : K (.bool (decide (30 < A.length) || decide (30 < B.length))) H) : VCall tbl lim 45 [.agg [av, bv]] H K := by
  refine VCall_fn tbl_at45 rfl ?_
  have e1 : decide (30 < (A.length : Int)) = decide (30 < A.length) := by simp only [decide_eq_decide]; omega
  have e2 : decide (30 < (B.length : Int)) = decide (30 < B.length) := by simp only [decide_eq_decide]; omega
  simp [vf45, ha.stor, hb.stor, ha.len, hb.len, e1, e2]
  simpa using hK
theorem ref_Validate (ha : LstV lotC H av A) (hb : LstV wntC H bv B) (hK : K (.int .i64 (valP A B)) H) : VCall tbl lim 49 [av, bv] H K := by
  refine VCall_fn tbl_at49 rfl ?_
  have e1 : decide (6 < (A.length : Int)) = decide (6 < A.length) := by simp only [decide_eq_decide]; omega
  have e2 : decide (6 < (B.length : Int)) = decide (6 < B.length) := by simp only [decide_eq_decide]; omega
  simp [vf49, ha.len, hb.len, e1, e2]
  refine cond_bool (fun h => ?_) fun h => ?_
  · have h : 6 < A.length ∨ 6 < B.length := by simpa using h
    simp; simpa [valP, h] using hK
  have h : ¬ (6 < A.length ∨ 6 < B.length) := by simp at h; omega
  simp only [valP, h, if_false] at hK
  simp
  refine wLoop_up A.length (fun i fr L H' => (fr 0 = av ∧ fr 1 = bv ∧ fr 5 = .int .i64 i) ∧ L = [] ∧ H' = H ∧ allN (fun i => lotB (A.getD i default)) i = true) ⟨by simp, rfl, rfl, rfl⟩ ?_
  rintro i hi fr L H' ⟨⟨f0, f1, f5⟩, rfl, e0, hz⟩
  have e0 := e0.symm
  subst e0
  simp [f0, f1, f5, ha.len]
  refine cond_dec (fun ht => ?_) fun hfl => ?_
  · have ht : i < A.length := by omega
    have r1 : ∀ L, vload (some 3) L H (eptf 4 av i 1) = some (.agg [.int .i64 (A.getD i default).l, .int .i64 (A.getD i default).t, .int .i64 (A.getD i default).b]) := fun L => ha.rdAt ht (by omega)
    have r0 : ∀ L, vload none L H (eptf 4 av i 0) = some (.int .i64 (A.getD i default).w) := fun L => ha.rd1 ht (by omega)
    have fa : ∀ j, vfaddr j (ept 4 av i) = some (eptf 4 av i j) := fun j => ha.faddr ht
    simp (disch := omega) [f0, f1, f5, ha.at ht, fa, r1]
    refine ref_ValidShade ?_
    by_cases hs : shB (A.getD i default).l (A.getD i default).t (A.getD i default).b = true
    · simp (disch := omega) [f0, f1, f5, hs, ha.at ht, fa, r0]
      refine ref_within ?_
      by_cases hw : 0 ≤ (A.getD i default).w ∧ (A.getD i default).w ≤ 1000
      · have e : lotB (A.getD i default) = true := by simp [lotB, hs, hw]
        simp (disch := omega) [f0, f1, f5, hw, wrap_i64, allN, e, hz]
        omega
      · have := allN_not (f := fun i => lotB (A.getD i default)) ht (by simp [lotB, hw])
        simp only [this, if_true] at hK
        simp [hw]
        exact hK
    · have := allN_not (f := fun i => lotB (A.getD i default)) ht (by simp [lotB, hs])
      simp only [this, if_true] at hK
      simp [hs]
      exact hK
  have : i = A.length := by omega
  subst this
  simp only [hz, Bool.true_eq_false, if_false] at hK
  simp
  refine wLoop_up B.length (fun i fr L H'' => (fr 1 = bv ∧ fr 6 = .int .i64 i) ∧ L = [] ∧ H'' = H ∧ allN (fun i => wntB (B.getD i default)) i = true) ⟨by simp [f1], rfl, rfl, rfl⟩ ?_
  clear f0 f1 f5
  rintro i hi fr L H'' ⟨⟨f1, f6⟩, rfl, e0, hz2⟩
  have e0 := e0.symm
  subst e0
  simp [f1, f6, hb.len]
  refine cond_dec (fun ht => ?_) fun hfl => ?_
  · have ht : i < B.length := by omega
    have r1 : ∀ L, vload (some 3) L H (eptf 5 bv i 1) = some (.agg [.int .i64 (B.getD i default).l, .int .i64 (B.getD i default).t, .int .i64 (B.getD i default).b]) := fun L => hb.rdAt ht (by omega)
    have r0 : ∀ L, vload none L H (eptf 5 bv i 0) = some (.int .i64 (B.getD i default).w) := fun L => hb.rd1 ht (by omega)
    have r4 : ∀ L, vload none L H (eptf 5 bv i 4) = some (.int .i64 (B.getD i default).n) := fun L => hb.rd1 ht (by omega)
    have fa : ∀ j, vfaddr j (ept 5 bv i) = some (eptf 5 bv i j) := fun j => hb.faddr ht
    simp (disch := omega) [f1, f6, hb.at ht, fa, r1]
    refine ref_ValidShade ?_
    by_cases hs : shB (B.getD i default).l (B.getD i default).t (B.getD i default).b = true
    · simp (disch := omega) [f1, f6, hs, hb.at ht, fa, r0]
      refine ref_within ?_
      by_cases hw : 0 ≤ (B.getD i default).w ∧ (B.getD i default).w ≤ 1000
      · simp (disch := omega) [f1, f6, hw, hb.at ht, fa, r4]
        refine ref_within ?_
        by_cases hn : 0 ≤ (B.getD i default).n ∧ (B.getD i default).n ≤ 100
        · have e : wntB (B.getD i default) = true := by simp [wntB, hs, hw, hn]
          simp (disch := omega) [f1, f6, hn, wrap_i64, allN, e, hz2]
          omega
        · have := allN_not (f := fun i => wntB (B.getD i default)) ht (by simp only [wntB, hn, decide_false, Bool.and_false])
          simp only [this, if_true] at hK
          simp [hn]
          exact hK
      · have := allN_not (f := fun i => wntB (B.getD i default)) ht (by simp only [wntB, hw, decide_false, Bool.and_false, Bool.false_and])
        simp only [this, if_true] at hK
        simp [hw]
        exact hK
    · have := allN_not (f := fun i => wntB (B.getD i default)) ht (by simp [wntB, hs])
      simp only [this, if_true] at hK
      simp [hs]
      exact hK
  have : i = B.length := by omega
  subst this
  simp only [hz2, Bool.true_eq_false, if_false] at hK
  simp
  exact hK
theorem law_DyeNears {ws : List V} {f : Trd} (hv : TrdV H ws f) (hlim : lim ≤ H.length) (hK : ∀ H', K (.bool true) H') : VCall tbl lim 12 [.agg ws] H K := by
  cases hv with
  | mk ha hb =>
    rename_i av bv A B
    refine VCall_fn tbl_at12 rfl ?_
    simp [vf12, ha.stor, hb.stor]
    refine law_wide ha hb ?_
    refine cond_bool (fun h => ?_) fun h => ?_
    · simp
      refine law_known hlim fun H1 => ?_
      simp; exact hK _
    have h : ¬ (30 < A.length ∨ 30 < B.length) := by simp at h; omega
    simp
    refine wLoop_up A.length (fun i fr L H' => (fr 1 = .lp 0 0 ∧ fr 3 = .int .i64 i) ∧ L = [[av, bv]] ∧ H' = H) ⟨by simp, rfl, rfl⟩ ?_
    rintro i hi fr L H' ⟨⟨f1, f3⟩, rfl, rfl⟩
    simp [f1, f3, ha.len, hb.len]
    refine cond_dec (fun ht => ?_) fun hfl => ?_
    · have ht : i < A.length := by omega
      simp [f1, f3]
      refine wLoop_up B.length (fun j fr L H'' => (fr 1 = .lp 0 0 ∧ fr 3 = .int .i64 i ∧ fr 4 = .int .i64 j) ∧ L = [[av, bv]] ∧ H'' = H') ⟨by simp [f1, f3], rfl, rfl⟩ ?_
      clear f1 f3
      rintro j hj fr L H'' ⟨⟨f1, f3, f4⟩, rfl, e0⟩
      have e0 := e0.symm
      subst e0
      simp [f1, f3, f4, hb.len]
      refine cond_dec (fun ht2 => ?_) fun hfl2 => ?_
      · have ht2 : j < B.length := by omega
        simp (disch := omega) [f1, f3, f4, ha.at ht, hb.at ht2, lot_load ha, wnt_load hb]
        refine dye_Near ?_
        simp (disch := omega) [f1, f3, f4, ha.at ht, hb.at ht2, lot_load ha, wnt_load hb]
        refine ref_Near ?_
        simp (disch := omega) [f1, f3, f4, wrap_i64]
        omega
      · have : j = B.length := by omega
        subst this
        simp (disch := omega) [f1, f3, f4, wrap_i64]
        omega
    · simp [f1, f3, ha.stor, hb.stor]
      refine dye_Validate ha hb ?_
      simp [f1, ha.stor, hb.stor]
      refine ref_Validate ha hb ?_
      simp
      refine law_known (Nat.le_refl _) fun H1 => ?_
      simp; exact hK _
end
end Go.Proofs.Ytlljkhhdhedajaa.Vm
