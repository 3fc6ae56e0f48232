/- Package plot over the machine: moments that prove the smallest number; PlotMoments. -/
import Derived.Test.YtkmcdiajcnejiaaNeA
namespace Go.Proofs.Ytkmcdiajcnejiaa.Vm
open Go
set_option maxRecDepth 100000
set_option maxHeartbeats 1000000
set_option linter.unusedSimpArgs false
set_option linter.unusedVariables false
attribute [-simp] List.getD_eq_getElem?_getD
section
variable {lim : Nat} {H : Hp} {K : V → Hp → Prop} {wv : V} {W : List Wr} {r c x y q u1 u2 u3 : Int} {v w : V} {M : List (Int × Int)}
theorem keepL2 {L : Lo} {q : Nat} {c : List V} (h : L[q]? = some c) : ∀ d e, (L ++ [d, e])[q]? = some c := fun d e => by
  rw [List.getElem?_append_left (List.getElem?_eq_some_iff.1 h).1]; exact h
theorem loSet1 {L : Lo} {a b c : List V} : (L ++ [a, b]).set (L.length + 1) c = L ++ [a, c] := by simp
theorem RnsW.mono {A : List Wg} {n : Nat} {rs : List (Nat × Nat)} (h : RnsW A n rs) {i : Nat} : ∀ {j : Nat}, i ≤ j → j ≤ rs.length → posW rs i ≤ posW rs j
  | 0, h1, _ => by have : i = 0 := by omega
                   subst this; exact Nat.le_refl _
  | j + 1, h1, h2 => by
    by_cases e : i = j + 1
    · subst e; exact Nat.le_refl _
    · have ih := h.mono (i := i) (j := j) (by omega) (by omega)
      obtain ⟨d, _, e2, _⟩ := h.at (i := j) (by omega)
      omega
theorem setL0 {X : Lo} {q : Nat} {c : List V} (h : 0 < q) : (X.set q c)[0]? = X[0]? := by rw [List.getElem?_set_ne (by omega)]
theorem setLq {X : Lo} {q : Nat} {c d : List V} (h : X[q]? = some d) : (X.set q c)[q]? = some c := by rw [List.getElem?_set_self (List.getElem?_eq_some_iff.1 h).1]
theorem needN_snoc {p : Ply} {M : List (Int × Int)} {x : Int × Int} : needN p (M ++ [x]) = needN p M + crw p x.1 x.2 := by simp [needN]
/-- what the moments that are returned are -/
structure MomR (p : Ply) (M : List (Int × Int)) : Prop where
  len : M.length ≤ 16
  need : needN p M = leastP p
  asc : ∀ i j, i < j → j < M.length → (M.getD i default).1 < (M.getD j default).1
theorem plot_Moments (hw : LstV wrC H wv W) (hlim : lim ≤ H.length) (hK : ∀ H' v M, HX H H' → LstV moC H' v M → (valP ⟨W, r, c⟩ = 0 → MomR ⟨W, r, c⟩ M) → (valP ⟨W, r, c⟩ ≠ 0 → M = []) → K (.tup [v, .int .i64 (valP ⟨W, r, c⟩)]) H') : VCall tbl lim 38 [.agg [wv, .int .i64 r, .int .i64 c]] H K := by
  refine VCall_fn tbl_at38 rfl ?_
  simp [vf38, hw.stor, hw.one]
  refine plot_Validate hw ?_
  by_cases hval : valP ⟨W, r, c⟩ = 0
  case neg =>
    simp [hval]
    exact hK H .snil [] HX.refl .nil (fun h => absurd h hval) (fun _ => rfl)
  obtain ⟨g1, g2, g3, g4, g5⟩ := valP_ok hval
  simp only at g1 g2 g3 g4 g5
  simp [hval, hw.stor]
  refine plot_sizes hw hval hlim fun H1 qv u A rs x1 hA hR hu hq => ?_
  replace x1 : HX H H1 := x1
  have l1 := x1.len
  have hAl := hA.len
  simp only at hAl
  have hRl := hR.len
  have hwW : ∀ w, w ∈ W → 1 ≤ w.s ∧ w.s ≤ 99 := fun w hw => by
    obtain ⟨i, hi, e⟩ := List.mem_iff_getElem.1 hw
    have := wrB_spec (g4 i hi)
    rw [getD_of hi, e] at this
    omega
  simp [hq.lst.stor, hq.lst.len]
  refine wLoop_up rs.length (fun i fr L H' => ∃ q5 M, (fr 1 = .lp 0 0 ∧ fr 5 = q5 ∧ fr 18 = qv ∧ fr 19 = .int .i64 rs.length ∧ fr 20 = .int .i64 i) ∧ L[0]? = some [wv, .int .i64 r, .int .i64 c] ∧ HX H1 H' ∧ OwnT H1.length moC H' q5 M ∧ M.length = i ∧ needN ⟨W, r, c⟩ M = befN ⟨W, r, c⟩ A (posW rs i) ∧ ∀ j, j < i → (M.getD j default).1 = (A.getD (posW rs j) default).s) ⟨.snil, [], by simp [hq.lst.len], rfl, HX.refl, .nil, rfl, rfl, fun j hj => by omega⟩ ?_
  rintro i hi fr L H2 ⟨q5, M, ⟨f1, f5, f18, f19, f20⟩, l0, hx, hM, hMl, hN, hS⟩
  simp [f1, f5, f18, f19, f20]
  refine cond_dec (fun ht => ?_) fun hfl => ?_
  · have ht : i < rs.length := by omega
    obtain ⟨d, er, ep, hrun⟩ := hR.at ht
    have hbs := befN_step hA hwW hrun
    generalize hmm : posW rs i = m at *
    have hrp := hrun.pos
    have hrl := hrun.le
    have hq2 := hq.lst.mono hx
    have gq : vload none L H2 (ept 1 qv i) = some (subV u m (m + d)) := by
      have := hq2.load1 (i := i) ht (L := L)
      rw [er] at this
      exact this
    have hsub := (hu.lst.mono hx).sub (a := m) (b := m + d) (by omega)
    have s1 := hsub.stor
    have hsl : ((A.drop m).take (m + d - m)).length = d := by simp; omega
    have s3 := hsub.len
    rw [hsl] at s3
    have a0 : viaddrS 5 (subV u m (m + d)) (.int .i64 0) = some (ept 5 (subV u m (m + d)) 0) := by
      have := hsub.at (i := 0) (by omega)
      simpa using this
    have e0 := filled_sub (l := A) (a := m) (d := d) (j := 0) hrp hrl
    rw [Nat.add_zero] at e0
    have fa0 := hsub.faddr (i := 0) (j := 0) (by omega)
    have fa1 := hsub.faddr2 (i := 0) (j := 0) (m := 1) (by omega)
    have fa2 := hsub.faddr2 (i := 0) (j := 0) (m := 2) (by omega)
    simp only [Nat.zero_add] at fa1 fa2
    have gl1 := fun L => wg_get hsub (i := 0) (j := 1) (by omega) (by omega) (L := L)
    have gl2 := fun L => wg_get hsub (i := 0) (j := 2) (by omega) (by omega) (L := L)
    rw [e0] at gl1 gl2
    have hL0 : 0 < L.length := (List.getElem?_eq_some_iff.1 l0).1
    simp (disch := omega) [f1, f5, f18, f19, f20, hq2.at ht, gq, s1, s3, lpId_ept, lpId_eptf, a0, fa0, fa1, fa2, gl1, gl2, lastO, lastS, splice22, splice]
    generalize hSS : (A.getD m default).s = S at *
    have hcm : ∀ j, crw ⟨W, r, c⟩ S (A.getD j default).f ≤ mxS ⟨W, r, c⟩ S := fun j => crw_le
    refine wLoop_post 2 (fun fr L' H' => ∃ j0, (fr 1 = .lp 0 0 ∧ fr 5 = q5 ∧ fr 18 = qv ∧ fr 19 = .int .i64 rs.length ∧ fr 20 = .int .i64 i ∧ fr 8 = .lp L.length 0) ∧ L'[0]? = some [wv, .int .i64 r, .int .i64 c] ∧ L'[L.length]? = some [.int .i64 S, .int .i64 (A.getD (m + j0) default).f] ∧ HX H2 H' ∧ j0 < d ∧ ∀ j, j < d → crw ⟨W, r, c⟩ S (A.getD (m + j) default).f ≤ crw ⟨W, r, c⟩ S (A.getD (m + j0) default).f) ?_ ?_
    · refine wLoop_up d (fun e fr L' H' => ∃ j0, (fr 1 = .lp 0 0 ∧ fr 5 = q5 ∧ fr 18 = qv ∧ fr 19 = .int .i64 rs.length ∧ fr 20 = .int .i64 i ∧ fr 8 = .lp L.length 0 ∧ fr 35 = subV u m (m + d) ∧ fr 36 = .int .i64 d ∧ fr 37 = .int .i64 e) ∧ L'[0]? = some [wv, .int .i64 r, .int .i64 c] ∧ L'[L.length]? = some [.int .i64 S, .int .i64 (A.getD (m + j0) default).f] ∧ HX H2 H' ∧ j0 < d ∧ ∀ j, j < e → crw ⟨W, r, c⟩ S (A.getD (m + j) default).f ≤ crw ⟨W, r, c⟩ S (A.getD (m + j0) default).f) ⟨0, by simp [f1, f5, f18, f19, f20, s3], keepL l0 _, lastO, HX.refl, hrp, fun j hj => by omega⟩ ?_
      clear f1 f5 f18 f19 f20 l0 a0 fa0 fa1 fa2 gl1 gl2 gq
      rintro e he fr L' H3 ⟨j0, ⟨f1, f5, f18, f19, f20, f8, f35, f36, f37⟩, l0, lq, hx3, hj0, hbest⟩
      have hsub3 := hsub.mono hx3
      have hw3 := ((hw.mono x1).mono hx).mono hx3
      simp [f1, f5, f18, f19, f20, f8, f35, f36, f37]
      refine cond_dec (fun ht2 => ?_) fun hfl2 => ?_
      · have ht2 : e < d := by omega
        have ga := hsub3.at (i := e) (by rw [hsl]; exact ht2)
        have gl := wg_load hsub3 (i := e) (by rw [hsl]; exact ht2) (L := L')
        rw [filled_sub ht2 hrl] at gl
        have hse : (A.getD (m + e) default).s = S := (hrun.eq (m + e) (by omega) (by omega)).trans hSS
        rw [hse] at gl
        generalize hfe : A.getD (m + e) default = w at *
        have cw := fun a b => keepL2 l0 a b
        have cq := fun a b => keepL2 lq a b
        have hLq : L.length < L'.length := (List.getElem?_eq_some_iff.1 lq).1
        simp (disch := omega) [f1, f5, f18, f19, f20, f8, f35, f36, f37, ga, gl, lastO, lastS, splice, splice22, iz5, lpId_ept, l0, keepL l0, hw3.stor, loAt, loSet1, cw]
        generalize hLL : L' ++ [[V.int .i64 w.a, V.int .i64 S, V.int .i64 w.f, V.int .i64 w.t, V.int .i64 w.n], [V.int .i64 S, V.int .i64 w.f]] = LL at *
        refine plot_crowd hw3 hval (Nat.le_refl _) fun H4 v4 x4 o4 => ?_
        replace x4 : HX H3 H4 := x4
        have hl4 : (crowdL ⟨W, r, c⟩ S w.f W.length).length = crw ⟨W, r, c⟩ S w.f := crowdL_len (p := ⟨W, r, c⟩)
        have hw4 := hw3.mono x4
        have k0 : LL[0]? = some [wv, V.int .i64 r, V.int .i64 c] := by rw [← hLL]; exact cw _ _
        have kq : LL[L.length]? = some [V.int .i64 S, V.int .i64 (A.getD (m + j0) default).f] := by rw [← hLL]; exact cq _ _
        have k1 : LL[L'.length + 1]? = some [V.int .i64 S, V.int .i64 w.f] := by rw [← hLL, loAt]; rfl
        simp (disch := omega) [f1, f5, f18, f19, f20, f8, f35, f36, f37, k0, kq, k1, o4.sl.len, hl4, hw4.stor]
        refine plot_crowd hw4 hval (Nat.le_refl _) fun H5 v5 x5 o5 => ?_
        replace x5 : HX H4 H5 := x5
        have hl5 : (crowdL ⟨W, r, c⟩ S (A.getD (m + j0) default).f W.length).length = crw ⟨W, r, c⟩ S (A.getD (m + j0) default).f := crowdL_len (p := ⟨W, r, c⟩)
        have hL1 : 0 < L.length := hL0
        simp (disch := omega) [f1, f5, f18, f19, f20, f8, f35, f36, f37, k0, kq, k1, o5.sl.len, hl5]
        refine cond_dec (fun hgt => ?_) fun hgt => ?_
        · simp (disch := omega) [f1, f5, f18, f19, f20, f8, f35, f36, f37, k0, kq, k1, splice22, setL0 hL1, setLq kq, wrap_i64]
          refine ⟨by omega, e, by rw [hfe], (hx3.trans x4).trans x5, ht2, fun j hj => ?_⟩
          rw [hfe]
          by_cases ej : j = e
          · subst ej; rw [hfe]; exact Nat.le_refl _
          · have := hbest j (by omega); omega
        · simp (disch := omega) [f1, f5, f18, f19, f20, f8, f35, f36, f37, k0, kq, k1, wrap_i64]
          refine ⟨by omega, j0, rfl, (hx3.trans x4).trans x5, hj0, fun j hj => ?_⟩
          by_cases ej : j = e
          · subst ej; rw [hfe]; omega
          · exact hbest j (by omega)
      · have : e = d := by omega
        subst this
        simp [f1, f5, f18, f19, f20, f8]
        exact ⟨l0, j0, lq, hx3, hj0, hbest⟩
    clear f1 f5 f18 f19 f20 l0 a0 fa0 fa1 fa2 gl1 gl2 gq
    rintro fr L2 H3 ⟨j0, ⟨f1, f5, f18, f19, f20, f8⟩, l0, lq, hx3, hj0, hbest⟩
    have hfull : crw ⟨W, r, c⟩ S (A.getD (m + j0) default).f = mxS ⟨W, r, c⟩ S := by
      refine Nat.le_antisymm crw_le (mxS_le fun w hw2 hs => ?_)
      obtain ⟨j, hj, e⟩ := hA.mem hw2
      have hs2 : (A.getD j default).s = (A.getD m default).s := by rw [hSS, ← hs, ← e]; rfl
      have hjr := hrun.only hA hj hs2
      have := hbest (j - m) (by omega)
      rw [show m + (j - m) = j by omega] at this
      rw [← e]; exact this
    have hM3 := hM.mono hx3
    obtain ⟨v', H4, a1, a2, a3, a4, a5, a6⟩ := hM3.append (lim := lim) (bytes := 16) (x := (S, (A.getD (m + j0) default).f)) (cs := [.int .i64 S, .int .i64 (A.getD (m + j0) default).f]) rfl ⟨by omega, by have := hx.len; have := hx3.len; omega⟩ (by omega) (by omega)
    simp (disch := omega) [f1, f5, f18, f19, f20, f8, lq, vbslice_some, splice, splice22, a1, wrap_i64]
    refine ⟨by omega, l0, a3 H1 (hx.trans hx3) (Nat.le_refl _), _, a2, by simp; omega, ?_, fun j hj => ?_⟩
    · rw [needN_snoc, hfull, hN, ep, hbs]
    · by_cases ej : j = i
      · subst ej
        rw [hmm, hSS, ← hMl]
        simp [List.getD_eq_getElem?_getD]
      · rw [List.getD_eq_getElem?_getD, List.getElem?_append_left (by omega), ← List.getD_eq_getElem?_getD]
        exact hS j (by omega)
  · have : i = rs.length := by omega
    subst this
    simp [f5, hM.lst.stor]
    have := hK H2 q5 M (x1.trans hx) hM.lst (fun _ => ⟨by omega, by rw [hN, hR.end]; exact befN_end hA hwW, fun a b hab hb => ?_⟩) (fun h => absurd hval h)
    · rw [hval] at this; exact this
    · rw [hS a (by omega), hS b (by omega)]
      obtain ⟨da, ea1, ea2, ra⟩ := hR.at (i := a) (by omega)
      obtain ⟨db, eb1, eb2, rb⟩ := hR.at (i := b) (by omega)
      have hmo := hR.mono (i := a + 1) (j := b) (by omega) (by omega)
      have rap := ra.pos
      have rbl := rb.le
      have rbp := rb.pos
      have hle := hA.le (j := posW rs a) (k := posW rs b) (by omega) (by omega)
      by_cases he : (A.getD (posW rs b) default).s = (A.getD (posW rs a) default).s
      · have := ra.only hA (j := posW rs b) (by omega) he
        omega
      · omega
theorem MomR.neE {p : Ply} (h : MomR p M) (hval : valP p = 0) : neE p M = 0 := by
  have h3 : allN (fun i => !dupB M i) M.length = true := allN_of fun i hi => by
    have : dupB M i = false := by
      simp only [dupB, Bool.not_eq_false']
      refine allN_of fun k hk => ?_
      have := h.asc k i hk hi
      simp only [Bool.not_eq_true', decide_eq_false_iff_not]
      omega
    rw [this]; rfl
  have := h.len
  simp only [Vm.neE, hval, ne_eq, not_true_eq_false, if_false, h3, Bool.true_eq_false]
  rw [if_neg (by omega)]
theorem MomR.neS {p : Ply} (h : MomR p M) (hval : valP p = 0) : neS p M = leastP p := by
  simp only [Vm.neS, h.neE hval, if_true]
  rw [ndN_need (Nat.le_refl _), List.take_length, h.need]
end
end Go.Proofs.Ytkmcdiajcnejiaa.Vm
