/- Package plot over the machine: what moments prove; PlotNeeds. -/
import Derived.Test.YtkmcdiajcnejiaaPlY
namespace Go.Proofs.Ytkmcdiajcnejiaa.Vm
open Go
set_option maxRecDepth 100000
set_option maxHeartbeats 1000000
set_option linter.unusedSimpArgs false
set_option linter.unusedVariables false
attribute [-simp] List.getD_eq_getElem?_getD
def moC : Cod (Int × Int) 2 := ⟨fun m => [.int .i64 m.1, .int .i64 m.2], fun _ => rfl⟩
def MosV (H : Hp) (v : V) (l : List (Int × Int)) : Prop := LstV moC H v l
theorem mos_of {H : Hp} {v : V} {d : CD} (h : RepT H (.sl [cInt, cInt]) v d) : ∃ l : List (Int × Int), MosV H v l ∧ l.length ≤ maxLen := by
  obtain ⟨l1, h1, hm, hp⟩ := lst_of (c := moC) rfl (fun z => True) (fun vs ds h => by
    obtain ⟨v0, u0, _, _, rfl, _, p0, q0⟩ := reps_cons h
    obtain ⟨v1, u1, _, _, rfl, _, p1, q1⟩ := reps_cons q0
    have e := reps_nil q1
    subst e
    obtain ⟨n0, rfl, c0⟩ := int_of p0
    obtain ⟨n1, rfl, c1⟩ := int_of p1
    exact ⟨(n0, n1), rfl, trivial⟩) h
  exact ⟨l1, h1, hm⟩
/-- an earlier moment has the same size -/
def dupB (M : List (Int × Int)) (i : Nat) : Bool := !allN (fun k => !decide ((M.getD k default).1 = (M.getD i default).1)) i
def ndN (p : Ply) (M : List (Int × Int)) : Nat → Nat
  | 0 => 0
  | n + 1 => ndN p M n + crw p (M.getD n default).1 (M.getD n default).2
def neE (p : Ply) (M : List (Int × Int)) : Int := if valP p ≠ 0 then valP p else if 16 < M.length then 4 else if allN (fun i => !dupB M i) M.length = false then 7 else 0
def neS (p : Ply) (M : List (Int × Int)) : Int := if neE p M = 0 then (ndN p M M.length : Int) else 0
theorem ndN_len {p : Ply} {M : List (Int × Int)} : ∀ {n : Nat}, ndN p M n ≤ n * p.W.length
  | 0 => Nat.zero_le _
  | n + 1 => by
    rw [ndN, Nat.succ_mul]
    have := ndN_len (p := p) (M := M) (n := n)
    have := crw_len (p := p) (s := (M.getD n default).1) (a := (M.getD n default).2)
    omega
theorem ndN_need {p : Ply} {M : List (Int × Int)} : ∀ {n : Nat}, n ≤ M.length → ndN p M n = needN p (M.take n)
  | 0, _ => by simp [ndN, needN]
  | n + 1, h => by
    have ih := ndN_need (p := p) (M := M) (n := n) (by omega)
    rw [ndN, ih, List.take_add_one, List.getElem?_eq_getElem (by omega), getD_of (by omega)]
    simp only [needN, Option.toList_some, List.map_append, List.sum_append, List.map_cons, List.map_nil, List.sum_cons, List.sum_nil]
    omega
theorem neE_ok {p : Ply} {M : List (Int × Int)} (h : neE p M = 0) : valP p = 0 ∧ M.length ≤ 16 ∧ allN (fun i => !dupB M i) M.length = true := by
  unfold neE at h
  split at h
  · rename_i h1; exact absurd h h1
  split at h
  · cases h
  split at h
  · cases h
  rename_i h1 h2 h3
  exact ⟨Classical.not_not.1 h1, by omega, by simpa using h3⟩
theorem dup_no {M : List (Int × Int)} {i k : Nat} (h : dupB M i = false) (hk : k < i) : (M.getD k default).1 ≠ (M.getD i default).1 := by
  simp only [dupB, Bool.not_eq_false'] at h
  have := allN_at h hk
  simpa using this
theorem neS_le {p : Ply} {M : List (Int × Int)} (h : neE p M = 0) : neS p M ≤ leastP p := by
  obtain ⟨h1, h2, h3⟩ := neE_ok h
  obtain ⟨g1, g2, g3, g4, g5⟩ := valP_ok h1
  simp only [neS, h, if_true]
  rw [ndN_need (Nat.le_refl _), List.take_length]
  have := needN_le (p := p) (fun w hw => by
    obtain ⟨i, hi, e⟩ := List.mem_iff_getElem.1 hw
    have := wrB_spec (g4 i hi)
    rw [getD_of hi, e] at this
    omega) M (by
      rw [List.Nodup, List.pairwise_iff_getElem]
      intro i j hi hj hij
      simp only [List.length_map] at hi hj
      have := allN_at h3 hj
      simp only [Bool.not_eq_true'] at this
      have := dup_no this hij
      rw [getD_of hi, getD_of hj] at this
      simpa using this)
  omega
section
variable {lim : Nat} {H : Hp} {K : V → Hp → Prop} {wv : V} {W : List Wr} {r c x y q u1 u2 u3 : Int} {v w : V} {M : List (Int × Int)}
theorem mo_load (h : LstV moC H v M) {i : Nat} (hi : i < M.length) {L : Lo} : vload (some 2) L H (ept 2 v i) = some (.agg [.int .i64 (M.getD i default).1, .int .i64 (M.getD i default).2]) := h.load hi
theorem mo_get (h : LstV moC H v M) {i j : Nat} (hi : i < M.length) (hj : j < 2) {L : Lo} : vload none L H (eptf 2 v i j) = rd none [.int .i64 (M.getD i default).1, .int .i64 (M.getD i default).2] j := h.rd1 hi hj
theorem dup_yes {i k : Nat} (hi : i < M.length) (hk : k < i) (he : (M.getD k default).1 = (M.getD i default).1) : allN (fun i => !dupB M i) M.length = false :=
  allN_not hi (by
    simp only [dupB, Bool.not_not]
    exact allN_not hk (by rw [he]; simp))
theorem plot_Needs (hw : LstV wrC H wv W) (hm : LstV moC H v M) (hM : M.length ≤ 1000) (hlim : lim ≤ H.length) (hK : ∀ H', HX H H' → K (.tup [.int .i64 (neS ⟨W, r, c⟩ M), .int .i64 (neE ⟨W, r, c⟩ M)]) H') : VCall tbl lim 39 [.agg [wv, .int .i64 r, .int .i64 c], v] H K := by
  refine VCall_fn tbl_at39 rfl ?_
  simp [vf39, hw.stor, hw.one, hm.stor]
  refine plot_Validate hw ?_
  by_cases hval : valP ⟨W, r, c⟩ = 0
  case neg =>
    have e1 : neE ⟨W, r, c⟩ M = valP ⟨W, r, c⟩ := by simp [neE, hval]
    have e2 : neS ⟨W, r, c⟩ M = 0 := by simp [neS, e1, hval]
    have := hK H HX.refl
    rw [e1, e2] at this
    simp [hval]; exact this
  obtain ⟨g1, g2, g3, g4, g5⟩ := valP_ok hval
  simp only at g1 g2 g3 g4 g5
  have d16 : decide (16 < (M.length : Int)) = decide (16 < M.length) := by simp only [decide_eq_decide]; omega
  simp [hval, hm.len, d16]
  refine cond_dec (fun h16 => ?_) fun h16 => ?_
  · have e1 : neE ⟨W, r, c⟩ M = 4 := by simp [neE, hval, h16]
    have e2 : neS ⟨W, r, c⟩ M = 0 := by simp [neS, e1]
    have := hK H HX.refl
    rw [e1, e2] at this
    simp; exact this
  have h16 : M.length ≤ 16 := by omega
  simp [hm.len]
  refine wLoop_up M.length (fun i fr L H' => (fr 2 = .lp 0 0 ∧ fr 1 = v ∧ fr 7 = .int .i64 (ndN ⟨W, r, c⟩ M i) ∧ fr 20 = v ∧ fr 21 = .int .i64 M.length ∧ fr 22 = .int .i64 i) ∧ L[0]? = some [wv, .int .i64 r, .int .i64 c] ∧ HX H H' ∧ allN (fun i => !dupB M i) i = true) ⟨by simp [ndN, hm.len], rfl, HX.refl, rfl⟩ ?_
  rintro i hi fr L H1 ⟨⟨f2, f1, f7, f20, f21, f22⟩, l0, hx, hd⟩
  have hm1 := hm.mono hx
  simp [f2, f1, f7, f20, f21, f22]
  refine cond_dec (fun ht => ?_) fun hfl => ?_
  · have ht : i < M.length := by omega
    have hs := hm1.sub (a := 0) (b := i) ⟨by omega, by omega⟩
    simp only [List.drop_zero, Nat.sub_zero] at hs
    have hsl : (M.take i).length = i := by simp; omega
    have hbd := hm1.subW (a := 0) (b := i) ⟨by omega, by omega⟩ (by omega) (vbounds_hi (k := .i64) (by omega))
    simp (disch := omega) [f2, f1, f7, f20, f21, f22, hm1.at ht, mo_load hm1, lastO, lastS, splice22, iz2, l0, keepL l0, hbd, hs.len, hsl]
    refine wLoop_up i (fun k fr L' H' => (fr 2 = .lp 0 0 ∧ fr 1 = v ∧ fr 7 = .int .i64 (ndN ⟨W, r, c⟩ M i) ∧ fr 20 = v ∧ fr 21 = .int .i64 M.length ∧ fr 22 = .int .i64 i ∧ fr 9 = .lp L.length 0 ∧ fr 29 = subV v 0 i ∧ fr 30 = .int .i64 i ∧ fr 31 = .int .i64 k) ∧ L'[0]? = some [wv, .int .i64 r, .int .i64 c] ∧ L'[L.length]? = some [.int .i64 (M.getD i default).1, .int .i64 (M.getD i default).2] ∧ HX H H' ∧ allN (fun k => !decide ((M.getD k default).1 = (M.getD i default).1)) k = true) ⟨by simp [f2, f1, f7, f20, f21, f22], keepL l0 _, lastO, hx, rfl⟩ ?_
    clear f2 f1 f7 f20 f21 f22 l0 hx hm1 hs hbd
    rintro k hk fr L' H1 ⟨⟨f2, f1, f7, f20, f21, f22, f9, f29, f30, f31⟩, l0, lq, hx, hd2⟩
    have hm1 := hm.mono hx
    have hw1 := hw.mono hx
    have hs := hm1.sub (a := 0) (b := i) ⟨by omega, by omega⟩
    simp only [List.drop_zero, Nat.sub_zero] at hs
    simp [f2, f1, f7, f20, f21, f22, f9, f29, f30, f31]
    refine cond_dec (fun ht2 => ?_) fun hfl2 => ?_
    · have ht2 : k < i := by omega
      have hk2 : k < (M.take i).length := by omega
      by_cases he : (M.getD k default).1 = (M.getD i default).1
      · have e1 : neE ⟨W, r, c⟩ M = 7 := by simp only [neE, hval, ne_eq, not_true_eq_false, if_false, dup_yes ht ht2 he, if_true]; rw [if_neg (by omega)]
        have e2 : neS ⟨W, r, c⟩ M = 0 := by simp [neS, e1]
        have := hK H1 hx
        rw [e1, e2] at this
        simp (disch := omega) [f2, f1, f7, f20, f21, f22, f9, f29, f30, f31, hs.at hk2, mo_load hs, lastO, lastS, splice22, iz2, l0, keepL l0, lq, keepL lq, getD_take ht2, eq_true he]
        exact this
      · simp (disch := omega) [f2, f1, f7, f20, f21, f22, f9, f29, f30, f31, hs.at hk2, mo_load hs, lastO, lastS, splice22, iz2, l0, keepL l0, lq, keepL lq, getD_take ht2, eq_false he, wrap_i64, allN, hd2]
        exact ⟨by omega, hx⟩
    · have : k = i := by omega
      subst this
      have hdk : dupB M k = false := by simp only [dupB, hd2]; rfl
      have hnl := ndN_len (p := ⟨W, r, c⟩) (M := M) (n := k)
      have hnl2 : k * W.length ≤ 16 * 16 := Nat.mul_le_mul (by omega) g1
      have hcl := crw_len (p := ⟨W, r, c⟩) (s := (M.getD k default).1) (a := (M.getD k default).2)
      simp only at hnl hcl
      simp (disch := omega) [f2, f1, f7, f20, f21, f22, f9, l0, lq, hw1.stor]
      refine plot_crowd hw1 hval (by have := hx.len; omega) fun H2 v2 x2 o2 => ?_
      replace x2 : HX H1 H2 := x2
      have hl2 : (crowdL ⟨W, r, c⟩ (M.getD k default).1 (M.getD k default).2 W.length).length = crw ⟨W, r, c⟩ (M.getD k default).1 (M.getD k default).2 := crowdL_len (p := ⟨W, r, c⟩)
      have hsc : ndN ⟨W, r, c⟩ M (k + 1) = ndN ⟨W, r, c⟩ M k + crw ⟨W, r, c⟩ (M.getD k default).1 (M.getD k default).2 := rfl
      simp (disch := omega) [f2, f1, f7, f20, f21, f22, f9, l0, o2.sl.len, hl2, wrap_i64, hsc, allN, hd, hdk]
      exact ⟨by omega, hx.trans x2⟩
  · have : i = M.length := by omega
    subst this
    have e1 : neE ⟨W, r, c⟩ M = 0 := by simp only [neE, hval, ne_eq, not_true_eq_false, if_false, hd, Bool.true_eq_false]; rw [if_neg (by omega)]
    have e2 : neS ⟨W, r, c⟩ M = ndN ⟨W, r, c⟩ M M.length := by simp [neS, e1]
    have := hK H1 hx
    rw [e1, e2] at this
    simp [f7]
    exact this
end
end Go.Proofs.Ytkmcdiajcnejiaa.Vm
