/- Package plot over the machine: assign: each wearing gets the first wig of its size that is free again. -/
import Derived.Test.YtkmcdiajcnejiaaPlV
namespace Go.Proofs.Ytkmcdiajcnejiaa.Vm
open Go
set_option maxRecDepth 100000
set_option maxHeartbeats 1000000
set_option linter.unusedSimpArgs false
set_option linter.unusedVariables false
attribute [-simp] List.getD_eq_getElem?_getD
/-- rows other than one stand, up to a length -/
structure OthX (b0 : Nat) (H1 H' : Hp) : Prop where
  len : H1.length ≤ H'.length
  oth : ∀ b, b < H1.length → b ≠ b0 → H'[b]? = H1[b]?
theorem OthX.refl {b0 : Nat} {H1 : Hp} : OthX b0 H1 H1 := ⟨Nat.le_refl _, fun _ _ _ => rfl⟩
def gW (A : List Wg) (wl : List Int) (j : Nat) : Int := wl.getD (A.getD j default).n.toNat 0
section
variable {lim : Nat} {H : Hp} {K : V → Hp → Prop} {wv : V} {W : List Wr} {r c x y q u1 u2 u3 : Int} {v w : V}
theorem apH_old {n : Nat} {H : Hp} {v : V} {l : List Int} (h : OwnV n H v l) {new all : List V} {b : Nat} (hb : b < n) (hbl : b < H.length) : (apH H v new all)[b]? = H[b]? := by
  cases h with
  | nil => simp only [apH]; rw [List.getElem?_append_left (by simp; omega), List.getElem?_append_left hbl]
  | row h1 h2 => simp only [apH]; rw [List.getElem?_append_left (by simp; omega), List.getElem?_set_ne (by omega), List.getElem?_append_left hbl]
theorem plot_assign (hw : LstV wrC H wv W) (hval : valP ⟨W, r, c⟩ = 0) (hlim : lim ≤ H.length)
    (hK : ∀ H' v wl, HX H H' → OwnV H.length H' v wl → UsedW ⟨W, r, c⟩ wl (leastP ⟨W, r, c⟩) → K (.tup [v, .int .i64 (leastP ⟨W, r, c⟩)]) H') : VCall tbl lim 65 [.agg [wv, .int .i64 r, .int .i64 c]] H K := by
  refine VCall_fn tbl_at65 rfl ?_
  obtain ⟨g1, g2, g3, g4, g5⟩ := valP_ok hval
  simp only at g1 g2 g3 g4 g5
  have hmk : ∀ L : Lo, vmks 1 8 [V.int .i64 0] L H (.int .i64 W.length) (.int .i64 W.length) = some (.val (.sl H.length 0 W.length 1) L (H ++ [.row (ints (zs W.length)) true])) := fun L => vmks_int (by omega)
  simp [vf65, hw.len, hw.one, hw.stor, hmk]
  have hzl : (zs W.length).length = W.length := zs_length _
  have o0 : OwnV H.length (H ++ [.row (ints (zs W.length)) true]) (.sl H.length 0 W.length 1) (zs W.length) := by
    have := OwnV.new (n := H.length) (H := H) (l := zs W.length) (Nat.le_refl _)
    rwa [hzl] at this
  have x0 : HX H (H ++ [.row (ints (zs W.length)) true]) := HX.push
  have l0 : (H ++ [Blk.row (ints (zs W.length)) true]).length = H.length + 1 := by simp
  generalize H ++ [Blk.row (ints (zs W.length)) true] = HB at *
  refine plot_sizes (hw.mono x0) hval (by omega) fun H1 qv u A rs x1 hA hR hu hq => ?_
  replace x1 : HX HB H1 := x1
  have l1 := x1.len
  have hAl := hA.len
  simp only at hAl
  have hRl := hR.len
  have hwW : ∀ w, w ∈ W → 1 ≤ w.s ∧ w.s ≤ 99 ∧ 0 ≤ w.f ∧ w.f < w.t ∧ w.t ≤ 600 := fun w hw => by
    obtain ⟨i, hi, e⟩ := List.mem_iff_getElem.1 hw
    have := wrB_spec (g4 i hi)
    rw [getD_of hi, e] at this
    omega
  have hAt : ∀ j, j < A.length → ∃ i : Nat, i < W.length ∧ A.getD j default = mkWg (W.getD i default) i := fun j hj => hA.at hj
  have hAb : ∀ j, j < A.length → (0 ≤ (A.getD j default).f ∧ (A.getD j default).f < (A.getD j default).t ∧ (A.getD j default).t ≤ 600) ∧ 0 ≤ (A.getD j default).n ∧ (A.getD j default).n < W.length := fun j hj => by
    obtain ⟨i, hi, e⟩ := hAt j hj
    rw [e]
    have := wrB_spec (g4 i hi)
    simp only [mkWg]
    omega
  simp [hq.lst.stor, hq.lst.len]
  refine wLoop_up rs.length (fun i fr L H' => ∃ wl, (fr 1 = .lp 0 0 ∧ fr 2 = .sl H.length 0 W.length 1 ∧ fr 3 = .int .i64 (befN ⟨W, r, c⟩ A (posW rs i)) ∧ fr 15 = qv ∧ fr 16 = .int .i64 rs.length ∧ fr 17 = .int .i64 i) ∧ L[0]? = some [wv, .int .i64 r, .int .i64 c] ∧ OthX H.length H1 H' ∧ OwnV H.length H' (.sl H.length 0 W.length 1) wl ∧ wl.length = W.length ∧ GrS A r (posW rs i) 0 (befN ⟨W, r, c⟩ A (posW rs i)) [] (gW A wl) ∧ befN ⟨W, r, c⟩ A (posW rs i) ≤ 16 * i) ⟨zs W.length, by simp; rfl, rfl, OthX.refl, o0.mono x1, hzl, GrS.zero, by simp [posW, befN_zero]⟩ ?_
  rintro i hi fr L H' ⟨wl, ⟨f1, f2, f3, f15, f16, f17⟩, l0', hoth, how, hwl, hG, hU⟩
  simp [f1, f2, f3, f15, f16, f17]
  refine cond_dec (fun ht => ?_) fun hfl => ?_
  · have ht : i < rs.length := by omega
    obtain ⟨d, er, ep, hrun⟩ := hR.at ht
    generalize hmm : posW rs i = m at *
    generalize hUU : befN ⟨W, r, c⟩ A m = U at *
    have hrp := hrun.pos
    have hrl := hrun.le
    have hqb := hq.below
    have hqg := hq.ge
    have hub := hu.below
    have hug := hu.ge
    have LA : ∀ H', OthX H.length H1 H' → LstV wgC H' u A := fun H' ho => hu.lst.keepB fun b o k z e => ho.oth b (hub b o k z e) (by have := hug b o k z e; omega)
    have LQ : ∀ H', OthX H.length H1 H' → LstV (rnC u) H' qv rs := fun H' ho => hq.lst.keepB fun b o k z e => ho.oth b (hqb b o k z e) (by have := hqg b o k z e; omega)
    have hq' := LQ _ hoth
    have gq := hq'.load1 (i := i) ht (L := L)
    rw [er] at gq
    have gq : vload none L H' (ept 1 qv i) = some (subV u m (m + d)) := gq
    have hsub0 := (LA _ hoth).sub (a := m) (b := m + d) (by omega)
    have s1 := hsub0.stor
    have s3 := hsub0.len
    have hsl : ((A.drop m).take (m + d - m)).length = d := by simp; omega
    rw [hsl] at s3
    simp [f1, f2, f3, f15, f16, f17, hq'.at ht, gq, s1, s3, lpId_ept]
    refine wLoop_post 2 (fun fr L H' => ∃ wl f F, (fr 1 = .lp 0 0 ∧ fr 2 = .sl H.length 0 W.length 1 ∧ fr 3 = .int .i64 U ∧ fr 15 = qv ∧ fr 16 = .int .i64 rs.length ∧ fr 17 = .int .i64 i ∧ fr 6 = f) ∧ L[0]? = some [wv, .int .i64 r, .int .i64 c] ∧ OthX H.length H1 H' ∧ OwnV H.length H' (.sl H.length 0 W.length 1) wl ∧ wl.length = W.length ∧ OwnV H1.length H' f F ∧ GrS A r m d U F (gW A wl) ∧ F.length ≤ 16) ?_ ?_
    · refine wLoop_up d (fun e fr L H' => ∃ wl f F, (fr 1 = .lp 0 0 ∧ fr 2 = .sl H.length 0 W.length 1 ∧ fr 3 = .int .i64 U ∧ fr 15 = qv ∧ fr 16 = .int .i64 rs.length ∧ fr 17 = .int .i64 i ∧ fr 6 = f ∧ fr 21 = subV u m (m + d) ∧ fr 22 = .int .i64 d ∧ fr 23 = .int .i64 e) ∧ L[0]? = some [wv, .int .i64 r, .int .i64 c] ∧ OthX H.length H1 H' ∧ OwnV H.length H' (.sl H.length 0 W.length 1) wl ∧ wl.length = W.length ∧ OwnV H1.length H' f F ∧ GrS A r m e U F (gW A wl) ∧ F.length ≤ e) ⟨wl, .snil, [], by simp [f1, f2, f3, f15, f16, f17, s3], l0', hoth, how, hwl, .nil, hG, Nat.le_refl _⟩ ?_
      clear f1 f2 f3 f15 f16 f17 l0' hoth how hwl hG hq' gq hsub0 wl
      rintro e he fr L H' ⟨wl, f, F, ⟨f1, f2, f3, f15, f16, f17, f6, f21, f22, f23⟩, l0', hoth, how, hwl, hf, hG, hFe⟩
      have hol := hoth.len
      simp [f1, f2, f3, f15, f16, f17, f6, f21, f22, f23]
      refine cond_dec (fun ht2 => ?_) fun hfl2 => ?_
      · have ht2 : e < d := by omega
        have hme : m + e < A.length := by omega
        have hA' := LA _ hoth
        have hsub := hA'.sub (a := m) (b := m + d) (by omega)
        have ga := hsub.at (i := e) (by rw [hsl]; exact ht2)
        have gl := wg_load hsub (i := e) (by rw [hsl]; exact ht2) (L := L)
        rw [filled_sub ht2 hrl] at gl
        obtain ⟨⟨b1, b2, b3⟩, b4, b5⟩ := hAb (m + e) hme
        generalize hwg : A.getD (m + e) default = w at *
        simp (disch := omega) [f1, f2, f3, f15, f16, f17, f6, f21, f22, f23, ga, gl, lastO, lastS, splice, iz5]
        have lq : (L ++ [[V.int .i64 w.a, V.int .i64 w.s, V.int .i64 w.f, V.int .i64 w.t, V.int .i64 w.n]])[L.length]? = some [V.int .i64 w.a, V.int .i64 w.s, V.int .i64 w.f, V.int .i64 w.t, V.int .i64 w.n] := by simp
        have l0q := keepL l0' [V.int .i64 w.a, V.int .i64 w.s, V.int .i64 w.f, V.int .i64 w.t, V.int .i64 w.n]
        generalize hLL : L ++ [[V.int .i64 w.a, V.int .i64 w.s, V.int .i64 w.f, V.int .i64 w.t, V.int .i64 w.n]] = LL at *
        refine wLoop_post 4 (fun fr L' H'' => ∃ q : Nat, (fr 1 = .lp 0 0 ∧ fr 2 = .sl H.length 0 W.length 1 ∧ fr 3 = .int .i64 U ∧ fr 15 = qv ∧ fr 16 = .int .i64 rs.length ∧ fr 17 = .int .i64 i ∧ fr 6 = f ∧ fr 21 = subV u m (m + d) ∧ fr 22 = .int .i64 d ∧ fr 23 = .int .i64 e ∧ fr 8 = .lp L.length 0 ∧ fr 9 = .int .i64 q) ∧ L' = LL ∧ H'' = H' ∧ q ≤ F.length ∧ (∀ i, i < q → w.f < F.getD i 0) ∧ (q < F.length → F.getD q 0 ≤ w.f)) ?_ ?_
        · refine wLoop_up F.length (fun q fr L' H'' => (fr 1 = .lp 0 0 ∧ fr 2 = .sl H.length 0 W.length 1 ∧ fr 3 = .int .i64 U ∧ fr 15 = qv ∧ fr 16 = .int .i64 rs.length ∧ fr 17 = .int .i64 i ∧ fr 6 = f ∧ fr 21 = subV u m (m + d) ∧ fr 22 = .int .i64 d ∧ fr 23 = .int .i64 e ∧ fr 8 = .lp L.length 0 ∧ fr 9 = .int .i64 q) ∧ L' = LL ∧ H'' = H' ∧ (∀ i, i < q → w.f < F.getD i 0)) ⟨by simp [f1, f2, f3, f15, f16, f17, f6, f21, f22, f23], rfl, rfl, fun i hi => by omega⟩ ?_
          clear f1 f2 f3 f15 f16 f17 f6 f21 f22 f23
          rintro q hq2 fr L' H'' ⟨⟨f1, f2, f3, f15, f16, f17, f6, f21, f22, f23, f8, f9⟩, e1, e2, hlo⟩
          have e1 := e1.symm
          have e2 := e2.symm
          subst e1
          subst e2
          by_cases hqF : q < F.length
          · have aq := hf.sl.addr (i := q) (by omega)
            simp only [Int.toNat_natCast] at aq
            simp (disch := omega) [f1, f2, f3, f15, f16, f17, f6, f21, f22, f23, f8, f9, hf.sl.len, eq_true hqF, aq, hf.sl.load, lq, lpId_ept]
            refine cond_dec (fun hlt => ?_) fun hlt => ?_
            · simp (disch := omega) [f1, f2, f3, f15, f16, f17, f6, f21, f22, f23, f8, f9, wrap_i64]
              intro i hi
              by_cases e : i = q
              · subst e; exact hlt
              · exact hlo i (by omega)
            · simp [f1, f2, f3, f15, f16, f17, f6, f21, f22, f23, f8, f9]
              exact ⟨q, rfl, by omega, hlo, fun _ => by omega⟩
          · simp (disch := omega) [f1, f2, f3, f15, f16, f17, f6, f21, f22, f23, f8, f9, hf.sl.len, eq_false hqF]
            exact ⟨q, rfl, by omega, hlo, fun h => absurd h hqF⟩
        clear f1 f2 f3 f15 f16 f17 f6 f21 f22 f23
        rintro fr L' H'' ⟨q, ⟨f1, f2, f3, f15, f16, f17, f6, f21, f22, f23, f8, f9⟩, e1, e2, hqF, hlo, hhi⟩
        have e1 := e1.symm
        have e2 := e2.symm
        subst e1
        subst e2
        have hfg := hf.ge
        simp [f1, f2, f3, f15, f16, f17, f6, f21, f22, f23, f8, f9, hf.sl.len]
        refine wCond_join (fun fr L' H'' => ∃ f', (fr 1 = .lp 0 0 ∧ fr 2 = .sl H.length 0 W.length 1 ∧ fr 3 = .int .i64 U ∧ fr 15 = qv ∧ fr 16 = .int .i64 rs.length ∧ fr 17 = .int .i64 i ∧ fr 6 = f' ∧ fr 21 = subV u m (m + d) ∧ fr 22 = .int .i64 d ∧ fr 23 = .int .i64 e ∧ fr 8 = .lp L.length 0 ∧ fr 9 = .int .i64 q) ∧ L' = LL ∧ OthX H.length H1 H'' ∧ OwnV H.length H'' (.sl H.length 0 W.length 1) wl ∧ OwnV H1.length H'' f' (padF F q)) (fun h => ?_) (fun h => ?_) ?_
        · have hqe : q = F.length := by simp at h; omega
          have af := hf.append (lim := lim) (x := 0) ⟨by omega, by omega⟩
          have pf := hf.ap hol (x := 0) (new := [.int .i64 0])
          have ol := hf.apLen (new := [.int .i64 0]) (all := ints (F ++ [0]))
          have ko : ∀ b, b < H1.length → (apH H' f [.int .i64 0] (ints (F ++ [0])))[b]? = H'[b]? := fun b hb => apH_old hf hb (by omega)
          have ep2 : padF F q = F ++ [0] := by unfold padF; rw [if_pos hqe]
          rw [ep2]
          simp (disch := omega) [f1, f2, f3, f15, f16, f17, f6, f21, f22, f23, f8, f9, vbslice_some, af, splice]
          exact ⟨⟨by omega, fun b hb hne => by rw [ko b hb]; exact hoth.oth b hb hne⟩, how.keepB fun b o k z e => ko b (by cases e; omega), pf⟩
        · have hqe : ¬ q = F.length := by simp at h; omega
          have ep2 : padF F q = F := by unfold padF; rw [if_neg hqe]
          rw [ep2]
          simp [f1, f2, f3, f15, f16, f17, f6, f21, f22, f23, f8, f9]
          exact ⟨hoth, how, hf⟩
        clear f1 f2 f3 f15 f16 f17 f6 f21 f22 f23 f8 f9 hfg
        rintro fr L' H2 ⟨f', ⟨f1, f2, f3, f15, f16, f17, f6, f21, f22, f23, f8, f9⟩, e1, hoth2, how2, hf2⟩
        have e1 := e1.symm
        subst e1
        have hol2 := hoth2.len
        have hpl : (padF F q).length = if q = F.length then F.length + 1 else F.length := by unfold padF; split <;> simp
        have hqp : q < (padF F q).length := by rw [hpl]; split <;> omega
        have hpl2 : (padF F q).length ≤ e + 1 := by rw [hpl]; split <;> omega
        have af := hf2.sl.addr (i := q) (by omega)
        simp only [Int.toNat_natCast] at af
        have st1 : ∀ L, vstore lim L H2 (ept 1 f' q) (.int .i64 (w.t + r)) 1 = some (L, setH H2 f' (ints ((padF F q).set q (w.t + r)))) := fun L => hf2.store ⟨by omega, hqp⟩
        have hf3 := hf2.put (l' := (padF F q).set q (w.t + r)) (by simp)
        have hl3 := setH_len hf2 (cs := ints ((padF F q).set q (w.t + r)))
        have ko3 : ∀ b, b < H1.length → (setH H2 f' (ints ((padF F q).set q (w.t + r))))[b]? = H2[b]? := fun b hb => setH_old hf2 hb
        generalize hH3 : setH H2 f' (ints ((padF F q).set q (w.t + r))) = H3 at *
        have how3 : OwnV H.length H3 (.sl H.length 0 W.length 1) wl := how2.keepB fun b o k z e => ko3 b (by cases e; omega)
        have aw := how3.sl.addr (i := w.n) (by omega)
        have st2 : ∀ L, vstore lim L H3 (ept 1 (.sl H.length 0 W.length 1) w.n.toNat) (.int .i64 ((U : Int) + (q : Int))) 1 = some (L, setH H3 (.sl H.length 0 W.length 1) (ints (wl.set w.n.toNat ((U : Int) + (q : Int))))) := fun L => how3.store ⟨by omega, by omega⟩
        have how4 := how3.put (l' := wl.set w.n.toNat ((U : Int) + (q : Int))) (by simp)
        have hl4 := setH_len how3 (cs := ints (wl.set w.n.toNat ((U : Int) + (q : Int))))
        have ko4 : ∀ b, b ≠ H.length → (setH H3 (.sl H.length 0 W.length 1) (ints (wl.set w.n.toNat ((U : Int) + (q : Int)))))[b]? = H3[b]? := fun b hb => by simp only [setH]; rw [List.getElem?_set_ne (by omega)]
        generalize hH4 : setH H3 (.sl H.length 0 W.length 1) (ints (wl.set w.n.toNat ((U : Int) + (q : Int)))) = H4 at *
        have hf4 := hf3.keepB (H' := H4) fun b o k z e => ko4 b (by have := hf3.ge b o k z e; omega)
        have hoth4 : OthX H.length H1 H4 := ⟨by omega, fun b hb hne => by rw [ko4 b hne, ko3 b hb]; exact hoth2.oth b hb hne⟩
        have hstep := GrS.step hA (p := ⟨W, r, c⟩) (q := q) (g' := gW A (wl.set w.n.toNat ((U : Int) + (q : Int)))) hG g2.1 hme (hrun.eq (m + e) (by omega) (by omega)) (fun j h1 h2 => hrun.eq j h1 (by omega)) (by rw [hwg]; omega) hqF (by rw [hwg]; exact hlo) (by rw [hwg]; exact hhi)
          (by simp only [gW, hwg]; rw [List.getD_eq_getElem?_getD, List.getElem?_set_self (by omega)]; rfl)
          (fun j hj => by
            obtain ⟨⟨_, _, _⟩, d4, d5⟩ := hAb j (by omega)
            have hne : (A.getD j default).n ≠ w.n := fun en => by
              have := hA.inj (j := j) (k := m + e) (by omega) hme (by rw [hwg]; exact en)
              omega
            simp only [gW]
            rw [List.getD_eq_getElem?_getD, List.getElem?_set_ne (by omega), ← List.getD_eq_getElem?_getD])
        rw [hwg] at hstep
        simp (disch := omega) [f1, f2, f3, f15, f16, f17, f6, f21, f22, f23, f8, f9, lq, l0q, af, st1, aw, st2, wrap_i64, -vstore]
        exact ⟨by omega, hoth4, _, how4, by simp; exact hwl, _, hf4, hstep, by simp; exact hpl2⟩
      · have : e = d := by omega
        subst this
        simp [f1, f2, f3, f15, f16, f17, f6]
        exact ⟨l0', hoth, wl, how, hwl, F, hf, hG, by omega⟩
    clear f1 f2 f3 f15 f16 f17 l0' hoth how hwl hG hq' gq hsub0 wl
    rintro fr L2 H2 ⟨wl, f, F, ⟨f1, f2, f3, f15, f16, f17, f6⟩, l0', hoth, how, hwl, hf, hG, hF⟩
    have hfull := hG.full hA hrun
    have hbs := befN_step hA (fun w hw => ⟨(hwW w hw).1, (hwW w hw).2.1⟩) hrun
    rw [hUU, ← hfull] at hbs
    have hnx := hG.next
    simp (disch := omega) [f1, f2, f3, f15, f16, f17, f6, hf.sl.len, wrap_i64]
    rw [ep, hbs]
    exact ⟨by omega, by omega, l0', hoth, wl, how, hwl, hnx, by omega⟩
  · have : i = rs.length := by omega
    subst this
    rw [hR.end] at hG
    have hb : befN ⟨W, r, c⟩ A (posW rs rs.length) = leastP ⟨W, r, c⟩ := by rw [hR.end]; exact befN_end hA fun w hw => ⟨(hwW w hw).1, (hwW w hw).2.1⟩
    have hused : UsedW ⟨W, r, c⟩ wl (leastP ⟨W, r, c⟩) := by
      have := hG.used hA (w := wl) hwl g2.1 (fun x hx => (hwW x hx).2.2.2.1) (fun j hj => rfl)
      rw [befN_end hA fun w hw => ⟨(hwW w hw).1, (hwW w hw).2.1⟩] at this
      exact this
    rw [hb] at f3
    simp [f2, f3]
    have hx : HX H H' := HX.of (by have := hoth.len; have := x0.len; omega) fun b hb => by
      rw [hoth.oth b (by omega) (by omega)]; exact (x0.trans x1).same hb
    exact hK _ _ _ hx how hused
end
end Go.Proofs.Ytkmcdiajcnejiaa.Vm
