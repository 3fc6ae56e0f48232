/- Package plot over the machine: commissions. -/
import Derived.Test.YtdipmhdekjlifaaPlF
namespace Go.Proofs.Ytdipmhdekjlifaa.Vm
open Go
set_option maxRecDepth 100000
set_option linter.unusedSimpArgs false
set_option linter.unusedVariables false
attribute [-simp] List.getD_eq_getElem?_getD
structure Jb where
  w : Int
  r : Int
  d : Int
  deriving Inhabited
def Jb.cells (e : Jb) : List V := [.int .i64 e.w, .int .i64 e.r, .int .i64 e.d]
def jbC : Cod Jb 3 := ⟨Jb.cells, fun _ => rfl⟩
structure Slt where
  d : Int
  j : Int
  m : Int
  deriving Inhabited
def Slt.cells (e : Slt) : List V := [.int .i64 e.d, .int .i64 e.j, .int .i64 e.m]
def slC : Cod Slt 3 := ⟨Slt.cells, fun _ => rfl⟩
def Slt.in64 (e : Slt) : Prop := I64 e.d ∧ I64 e.j ∧ I64 e.m
structure Shp where
  S : List Int
  J : List Jb
inductive ShpV (H : Hp) : List V → Shp → Prop
  | mk {sv jv : V} {S : List Int} {J : List Jb} : SlV H sv S → LstV jbC H jv J → ShpV H [sv, jv] ⟨S, J⟩
theorem shp_of {H : Hp} {ws : List V} {ds : List CD} (h : RepTs H [cInts, .sl [cInt, cInt, cInt]] ws ds) : ∃ f, ShpV H ws f := by
  obtain ⟨v0, u0, _, _, rfl, _, p0, q0⟩ := reps_cons h
  obtain ⟨v1, u1, _, _, rfl, _, p1, q1⟩ := reps_cons q0
  have e := reps_nil q1
  subst e
  obtain ⟨l0, h0, _, _⟩ := ints_of p0
  obtain ⟨l1, h1, _, _⟩ := lst_of (c := jbC) rfl (fun z => True) (fun vs ds h => by
    obtain ⟨v0, u0, _, _, rfl, _, p0, q0⟩ := reps_cons h
    obtain ⟨v1, u1, _, _, rfl, _, p1, q1⟩ := reps_cons q0
    obtain ⟨v2, u2, _, _, rfl, _, p2, q2⟩ := reps_cons q1
    have e := reps_nil q2
    subst e
    obtain ⟨n0, rfl, c0⟩ := int_of p0
    obtain ⟨n1, rfl, c1⟩ := int_of p1
    obtain ⟨n2, rfl, c2⟩ := int_of p2
    exact ⟨⟨n0, n1, n2⟩, rfl, trivial⟩) p1
  exact ⟨⟨l0, l1⟩, .mk h0 h1⟩
/-- slots -/
def SltsV (H : Hp) (v : V) (l : List Slt) : Prop := LstV slC H v l ∧ ∀ i, i < l.length → (l.getD i default).in64
theorem slts_of {H : Hp} {v : V} {d : CD} (h : RepT H (.sl [cInt, cInt, cInt]) v d) : ∃ l : List Slt, SltsV H v l := by
  obtain ⟨l1, h1, _, hp⟩ := lst_of (c := slC) rfl (fun z => z.in64) (fun vs ds h => by
    obtain ⟨v0, u0, _, _, rfl, _, p0, q0⟩ := reps_cons h
    obtain ⟨v1, u1, _, _, rfl, _, p1, q1⟩ := reps_cons q0
    obtain ⟨v2, u2, _, _, rfl, _, p2, q2⟩ := reps_cons q1
    have e := reps_nil q2
    subst e
    obtain ⟨n0, rfl, c0⟩ := int_of p0
    obtain ⟨n1, rfl, c1⟩ := int_of p1
    obtain ⟨n2, rfl, c2⟩ := int_of p2
    exact ⟨⟨n0, n1, n2⟩, rfl, c0, c1, c2⟩) h
  refine ⟨l1, h1, fun i hi => hp _ ?_⟩
  rw [List.getD_eq_getElem?_getD, List.getElem?_eq_getElem hi]
  exact List.getElem_mem hi

def shfB (x : Int) : Bool := decide (0 ≤ x ∧ x ≤ 1440)
def jobB (n : Nat) (j : Jb) : Bool := decide (0 ≤ j.w ∧ j.w ≤ 20000 ∧ 0 ≤ j.r ∧ j.r ≤ j.d ∧ j.d < n)
def valJ (S : List Int) (J : List Jb) : Int :=
  if 60 < S.length ∨ 8 < J.length then 4 else if allN (fun i => shfB (S.getD i 0)) S.length = false then 1 else if allN (fun i => jobB S.length (J.getD i default)) J.length = false then 1 else 0
theorem valJ_ok {S : List Int} {J : List Jb} (h : valJ S J = 0) : S.length ≤ 60 ∧ J.length ≤ 8 ∧ (∀ i, i < S.length → 0 ≤ S.getD i 0 ∧ S.getD i 0 ≤ 1440) ∧
    ∀ i, i < J.length → 0 ≤ (J.getD i default).w ∧ (J.getD i default).w ≤ 20000 ∧ 0 ≤ (J.getD i default).r ∧ (J.getD i default).r ≤ (J.getD i default).d ∧ (J.getD i default).d < S.length := by
  unfold valJ at h
  split at h
  · cases h
  rename_i h1
  split at h
  · cases h
  rename_i h2
  split at h
  · cases h
  rename_i h3
  simp only [Bool.not_eq_false] at h2 h3
  exact ⟨by omega, by omega, fun i hi => by have := allN_at h2 hi; simpa [shfB] using this, fun i hi => by have := allN_at h3 hi; simpa [jobB] using this⟩
section
variable {lim : Nat} {H : Hp} {K : V → Hp → Prop} {sv jv : V} {S : List Int} {J : List Jb} {x y : Int}
theorem jb_load (h : LstV jbC H jv J) {i : Nat} (hi : i < J.length) {L : Lo} : vload (some 3) L H (ept 3 jv i) = some (.agg [.int .i64 (J.getD i default).w, .int .i64 (J.getD i default).r, .int .i64 (J.getD i default).d]) := h.load hi
theorem jb_get (h : LstV jbC H jv J) {i j : Nat} (hi : i < J.length) (hj : j < 3) {L : Lo} : vload none L H (eptf 3 jv i j) = rd none [.int .i64 (J.getD i default).w, .int .i64 (J.getD i default).r, .int .i64 (J.getD i default).d] j := h.rd1 hi hj
theorem plot_isWindow (hs : SlV H sv S) (hK : K (.bool (decide (0 ≤ x ∧ x ≤ y ∧ y < S.length))) H) : VCall tbl lim 69 [sv, .int .i64 x, .int .i64 y] H K := by
  refine VCall_fn tbl_at69 rfl ?_
  simp [vf69, hs.len]
  simpa [Bool.and_assoc] using hK
theorem law_wide (hs : SlV H sv S) (hj : LstV jbC H jv J) (hK : K (.bool (decide (200 < S.length) || decide (30 < J.length))) H) : VCall tbl lim 44 [.agg [sv, jv]] H K := by
  refine VCall_fn tbl_at44 rfl ?_
  have e1 : decide (200 < (S.length : Int)) = decide (200 < S.length) := by simp only [decide_eq_decide]; omega
  have e2 : decide (30 < (J.length : Int)) = decide (30 < J.length) := by simp only [decide_eq_decide]; omega
  simp [vf44, hs.stor, hj.stor, hs.one, hs.len, hj.len, e1, e2]
  exact hK
theorem plot_ValidateJobs (hs : SlV H sv S) (hj : LstV jbC H jv J) (hK : K (.int .i64 (valJ S J)) H) : VCall tbl lim 45 [sv, jv] H K := by
  refine VCall_fn tbl_at45 rfl ?_
  have e1 : decide (60 < (S.length : Int)) = decide (60 < S.length) := by simp only [decide_eq_decide]; omega
  have e2 : decide (8 < (J.length : Int)) = decide (8 < J.length) := by simp only [decide_eq_decide]; omega
  simp [vf45, hs.len, hj.len, e1, e2]
  refine cond_bool (fun h => ?_) fun h => ?_
  · have h : 60 < S.length ∨ 8 < J.length := by simpa using h
    simp; simpa [valJ, h] using hK
  have h : ¬ (60 < S.length ∨ 8 < J.length) := by simp at h; omega
  simp only [valJ, h, if_false] at hK
  simp [hs.len]
  refine wLoop_up S.length (fun i fr L H' => (fr 0 = sv ∧ fr 1 = jv ∧ fr 17 = sv ∧ fr 18 = .int .i64 S.length ∧ fr 19 = .int .i64 i) ∧ L = [] ∧ H' = H ∧ allN (fun i => shfB (S.getD i 0)) i = true) ⟨by simp [hs.len], rfl, rfl, rfl⟩ ?_
  rintro i hi fr L H' ⟨⟨f0, f1, f17, f18, f19⟩, rfl, e0, hz⟩
  have e0 := e0.symm
  subst e0
  simp [f0, f1, f17, f18, f19]
  refine cond_dec (fun ht => ?_) fun hfl => ?_
  · have ht : i < S.length := by omega
    have a1 := hs.addr (i := i) (by omega)
    simp only [Int.toNat_natCast] at a1
    simp (disch := omega) [f0, f1, f17, f18, f19, a1, hs.load, lpId_ept]
    refine cond_bool (fun hb => ?_) fun hb => ?_
    · have := allN_not (f := fun i => shfB (S.getD i 0)) ht (by simp only [shfB, decide_eq_false_iff_not]; simp at hb; omega)
      simp only [this, if_true] at hK
      simp; exact hK
    · have e : shfB (S.getD i 0) = true := by simp only [shfB, decide_eq_true_eq]; simp at hb; omega
      simp (disch := omega) [f0, f1, f17, f18, f19, wrap_i64, allN, e, hz]
      omega
  have : i = S.length := by omega
  subst this
  simp only [hz, Bool.true_eq_false, if_false] at hK
  simp [f0, f1, hj.len]
  refine wLoop_up J.length (fun i fr L H' => (fr 0 = sv ∧ fr 30 = jv ∧ fr 31 = .int .i64 J.length ∧ fr 32 = .int .i64 i) ∧ H' = H ∧ allN (fun i => jobB S.length (J.getD i default)) i = true) ⟨by simp [f0, hj.len], rfl, rfl⟩ ?_
  clear f0 f1 f17 f18 f19
  rintro i hi fr L H' ⟨⟨f0, f30, f31, f32⟩, e0, hz2⟩
  have e0 := e0.symm
  subst e0
  simp [f0, f30, f31, f32]
  refine cond_dec (fun ht => ?_) fun hfl => ?_
  · have ht : i < J.length := by omega
    have hno : jobB S.length (J.getD i default) = false → K (.int .i64 1) H := fun e => by
      have := allN_not (f := fun i => jobB S.length (J.getD i default)) ht e
      have hK := hK
      simp only [this, if_true] at hK
      exact hK
    by_cases h1 : (J.getD i default).w < 0
    · simp (disch := omega) [f0, f30, f31, f32, hj.at ht, jb_load hj, lastO, lastS, splice33, h1]
      exact hno (by simp only [jobB, decide_eq_false_iff_not]; omega)
    by_cases h2 : 20000 < (J.getD i default).w
    · simp (disch := omega) [f0, f30, f31, f32, hj.at ht, jb_load hj, lastO, lastS, splice33, h1, h2]
      exact hno (by simp only [jobB, decide_eq_false_iff_not]; omega)
    simp (disch := omega) [f0, f30, f31, f32, hj.at ht, jb_load hj, lastO, lastS, splice33, h1, h2, hs.stor]
    refine plot_isWindow hs ?_
    by_cases h3 : 0 ≤ (J.getD i default).r ∧ (J.getD i default).r ≤ (J.getD i default).d ∧ (J.getD i default).d < S.length
    · have e : jobB S.length (J.getD i default) = true := by simp only [jobB, decide_eq_true_eq]; omega
      simp (disch := omega) [f0, f30, f31, f32, h3, wrap_i64, allN, e, hz2]
      omega
    · simp [h3]
      exact hno (by simp only [jobB, decide_eq_false_iff_not]; omega)
  have : i = J.length := by omega
  subst this
  simp only [hz2, Bool.true_eq_false, if_false] at hK
  simp; exact hK
theorem ref_ValidateJobs (hs : SlV H sv S) (hj : LstV jbC H jv J) (hK : K (.int .i64 (valJ S J)) H) : VCall tbl lim 46 [sv, jv] H K := by
  refine VCall_fn tbl_at46 rfl ?_
  have e1 : decide (60 < (S.length : Int)) = decide (60 < S.length) := by simp only [decide_eq_decide]; omega
  have e2 : decide (8 < (J.length : Int)) = decide (8 < J.length) := by simp only [decide_eq_decide]; omega
  simp [vf46, hs.len, hj.len, e1, e2]
  refine cond_bool (fun h => ?_) fun h => ?_
  · have h : 60 < S.length ∨ 8 < J.length := by simpa using h
    simp; simpa [valJ, h] using hK
  have h : ¬ (60 < S.length ∨ 8 < J.length) := by simp at h; omega
  simp only [valJ, h, if_false] at hK
  simp [hs.len]
  refine wLoop_up S.length (fun i fr L H' => (fr 0 = sv ∧ fr 1 = jv ∧ fr 5 = .int .i64 i) ∧ L = [] ∧ H' = H ∧ allN (fun i => shfB (S.getD i 0)) i = true) ⟨by simp [hs.len], rfl, rfl, rfl⟩ ?_
  rintro i hi fr L H' ⟨⟨f0, f1, f5⟩, rfl, e0, hz⟩
  have e0 := e0.symm
  subst e0
  simp [f0, f1, f5, hs.len]
  refine cond_dec (fun ht => ?_) fun hfl => ?_
  · have ht : i < S.length := by omega
    have a1 := hs.addr (i := i) (by omega)
    simp only [Int.toNat_natCast] at a1
    simp (disch := omega) [f0, f1, f5, a1, hs.load, lpId_ept]
    refine ref_within ?_
    simp
    refine cond_bool (fun hb => ?_) fun hb => ?_
    · have := allN_not (f := fun i => shfB (S.getD i 0)) ht (by simp only [shfB, decide_eq_false_iff_not]; simp at hb; omega)
      simp only [this, if_true] at hK
      simp; exact hK
    · have e : shfB (S.getD i 0) = true := by simp only [shfB, decide_eq_true_eq]; simp at hb; omega
      simp (disch := omega) [f0, f1, f5, wrap_i64, allN, e, hz]
      omega
  have : i = S.length := by omega
  subst this
  simp only [hz, Bool.true_eq_false, if_false] at hK
  simp [f0, f1, hj.len]
  refine wLoop_up J.length (fun i fr L H' => (fr 0 = sv ∧ fr 1 = jv ∧ fr 6 = .int .i64 i) ∧ H' = H ∧ allN (fun i => jobB S.length (J.getD i default)) i = true) ⟨by simp [f0, f1, hj.len], rfl, rfl⟩ ?_
  clear f0 f1 f5
  rintro i hi fr L H' ⟨⟨f0, f1, f6⟩, e0, hz2⟩
  have e0 := e0.symm
  subst e0
  simp [f0, f1, f6, hj.len]
  refine cond_dec (fun ht => ?_) fun hfl => ?_
  · have ht : i < J.length := by omega
    have hno : jobB S.length (J.getD i default) = false → K (.int .i64 1) H := fun e => by
      have := allN_not (f := fun i => jobB S.length (J.getD i default)) ht e
      have hK := hK
      simp only [this, if_true] at hK
      exact hK
    simp (disch := omega) [f0, f1, f6, hj.at ht, jb_load hj, lastO, lastS, splice33]
    refine ref_within ?_
    by_cases h1 : 0 ≤ (J.getD i default).w ∧ (J.getD i default).w ≤ 20000
    · simp (disch := omega) [f0, f1, f6, h1, lastO, hs.len]
      refine cond_bool (fun hb => ?_) fun hb => ?_
      · simp
        exact hno (by simp only [jobB, decide_eq_false_iff_not]; simp at hb; omega)
      · have e : jobB S.length (J.getD i default) = true := by simp only [jobB, decide_eq_true_eq]; simp at hb; omega
        simp (disch := omega) [f0, f1, f6, wrap_i64, allN, e, hz2]
        omega
    · simp [h1]
      exact hno (by simp only [jobB, decide_eq_false_iff_not]; omega)
  have : i = J.length := by omega
  subst this
  simp only [hz2, Bool.true_eq_false, if_false] at hK
  simp; exact hK
end
end Go.Proofs.Ytdipmhdekjlifaa.Vm
