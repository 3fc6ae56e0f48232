/- Package plot over the machine: plays whose later wearings are delayed; PlotDelays. -/
import Derived.Test.YtdipmhdekjlifaaNeB
namespace Go.Proofs.Ytdipmhdekjlifaa.Vm
open Go
set_option maxRecDepth 100000
set_option maxHeartbeats 1000000
set_option linter.unusedSimpArgs false
set_option linter.unusedVariables false
attribute [-simp] List.getD_eq_getElem?_getD
section
variable {lim : Nat} {H : Hp} {K : V → Hp → Prop} {wv : V} {W : List Wr} {r c x y q u1 u2 u3 a b : Int} {v w : V} {M : List (Int × Int)}
theorem dl_stores {n i : Nat} {u : V} {l : List Wr} (ho : OwnT n wrC H u l) (hi : i < l.length) (hlim : lim ≤ n) : ∃ H1 H2, (∀ L, vstore lim L H (eptf 4 u i 2) (.int .i64 ((l.getD i default).f + b)) 1 = some (L, H1)) ∧ LstV wrC H1 u (l.set i ⟨(l.getD i default).a, (l.getD i default).s, (l.getD i default).f + b, (l.getD i default).t⟩) ∧
    (∀ L, vstore lim L H1 (eptf 4 u i 3) (.int .i64 ((l.getD i default).t + b)) 1 = some (L, H2)) ∧ OwnT n wrC H2 u (l.set i ⟨(l.getD i default).a, (l.getD i default).s, (l.getD i default).f + b, (l.getD i default).t + b⟩) ∧ H1.length = H.length ∧ H2.length = H.length ∧ ∀ b, b < n → H2[b]? = H[b]? := by
  have s1 := fun L => ho.store (lim := lim) (i := i) (j := 2) (x := .int .i64 ((l.getD i default).f + b)) (y := ⟨(l.getD i default).a, (l.getD i default).s, (l.getD i default).f + b, (l.getD i default).t⟩) (L := L) (sz := 1) hlim hi rfl rfl (by omega) (by simp [wrC, Wr.cells, splice, cellsV])
  have o1 := ho.put (l' := l.set i ⟨(l.getD i default).a, (l.getD i default).s, (l.getD i default).f + b, (l.getD i default).t⟩) (by simp)
  have e1 := ho.setLen (cs := wrC.all (l.set i ⟨(l.getD i default).a, (l.getD i default).s, (l.getD i default).f + b, (l.getD i default).t⟩))
  have k1 := fun (b' : Nat) hb => ho.setOld (cs := wrC.all (l.set i ⟨(l.getD i default).a, (l.getD i default).s, (l.getD i default).f + b, (l.getD i default).t⟩)) (b := b') hb
  generalize setH H u (wrC.all (l.set i ⟨(l.getD i default).a, (l.getD i default).s, (l.getD i default).f + b, (l.getD i default).t⟩)) = H1 at *
  have hg : (l.set i ⟨(l.getD i default).a, (l.getD i default).s, (l.getD i default).f + b, (l.getD i default).t⟩).getD i default = ⟨(l.getD i default).a, (l.getD i default).s, (l.getD i default).f + b, (l.getD i default).t⟩ := by
    rw [setD_get hi, if_pos rfl]
  have s2 := fun L => o1.store (lim := lim) (i := i) (j := 3) (x := .int .i64 ((l.getD i default).t + b)) (y := ⟨(l.getD i default).a, (l.getD i default).s, (l.getD i default).f + b, (l.getD i default).t + b⟩) (L := L) (sz := 1) hlim (by simpa using hi) rfl rfl (by omega) (by rw [hg]; simp [wrC, Wr.cells, splice, cellsV])
  have o2 := o1.put (l' := l.set i ⟨(l.getD i default).a, (l.getD i default).s, (l.getD i default).f + b, (l.getD i default).t + b⟩) (by simp)
  have e2 := o1.setLen (cs := wrC.all (l.set i ⟨(l.getD i default).a, (l.getD i default).s, (l.getD i default).f + b, (l.getD i default).t + b⟩))
  have k2 := fun (b' : Nat) hb => o1.setOld (cs := wrC.all (l.set i ⟨(l.getD i default).a, (l.getD i default).s, (l.getD i default).f + b, (l.getD i default).t + b⟩)) (b := b') hb
  simp only [List.set_set] at s2
  exact ⟨_, _, s1, o1.lst, s2, o2, e1, by rw [e2, e1], fun b' hb => by rw [k2 b' hb, k1 b' hb]⟩
theorem copy_wr {lim : Nat} {H : Hp} (hv : LstV wrC H v W) (hlim : lim ≤ H.length) (hl : W.length ≤ 1000) : ∃ v' H', vappend lim 4 32 (H ++ [.row [] true]) (.sl H.length 0 0 4) v = some (v', H') ∧ OwnT H.length wrC H' v' W ∧ HX H H' := by
  have hv2 := hv.mono (H' := H ++ [.row [] true]) HX.push
  refine ⟨.sl (H.length + 1) 0 W.length 4, (H ++ [Blk.row [] true]).set H.length .dead ++ [.row (wrC.all W) true], ?_, .row (by omega) ?_, ?_⟩
  · simp [vappend, hv2.cells, hv2.len, hlim, Cod.all_len, show W.length * 32 ≤ 140737488355328 by omega, show W.length < 4611686018427387904 by omega]
  · have : H.length + 1 = ((H ++ [Blk.row [] true]).set H.length .dead).length := by simp
    rw [this]; exact List.getElem?_concat_length
  · refine HX.of (by simp <;> omega) fun i hi => ?_
    rw [List.getElem?_append_left (by simp; omega), List.getElem?_set_ne (by omega), List.getElem?_append_left hi]
theorem ref_Copy (hw : LstV wrC H wv W) (hl : W.length ≤ 1000) (hlim : lim ≤ H.length) (hK : ∀ H' v', HX H H' → OwnT H.length wrC H' v' W → K (.agg [v', .int .i64 r, .int .i64 c]) H') : VCall tbl lim 40 [.agg [wv, .int .i64 r, .int .i64 c]] H K := by
  refine VCall_fn tbl_at40 rfl ?_
  obtain ⟨v', H', a1, a2, a3⟩ := copy_wr hw hlim hl
  simp [vf40, hw.stor, hw.one, vbslice_some, a1, a2.lst.stor, a2.lst.one, splice]
  exact hK _ _ a3 a2
theorem clone_wr (hw : LstV wrC H wv W) (hl : W.length ≤ 1000) (hlim : lim ≤ H.length) (hK : ∀ H' v', HX H H' → OwnT H.length wrC H' v' W → K v' H') : VCall tbl lim 68 [wv] H K := by
  refine VCall_fn tbl_at68 rfl ?_
  obtain ⟨v', H', a1, a2, a3⟩ := copy_wr hw hlim hl
  cases hw with
  | nil =>
    simp [vf68]
    exact hK _ _ .refl .nil
  | empty =>
    simp [vf68, a1, a2.lst.stor]
    exact hK _ _ a3 a2
  | sl h1 h2 h3 =>
    simp [vf68, a1, a2.lst.stor]
    exact hK _ _ a3 a2
theorem veqA_4 {a b c d x y z w : Int} : veqA true [.int .i64, .int .i64, .int .i64, .int .i64] (.agg [.int .i64 a, .int .i64 b, .int .i64 c, .int .i64 d]) (.agg [.int .i64 x, .int .i64 y, .int .i64 z, .int .i64 w]) = some (.bool (!(decide (a = x) && (decide (b = y) && (decide (c = z) && decide (d = w)))))) := by
  simp only [veqA, eqCells, eqCell, and_self, if_true, Bool.and_true]
  rfl
theorem ref_Same {u1 u2 : V} (h1 : LstV wrC H u1 W) (h2 : LstV wrC H u2 W) (hl : W.length ≤ 1000) (hK : K (.bool true) H) : VCall tbl lim 43 [.agg [u1, .int .i64 r, .int .i64 c], .agg [u2, .int .i64 r, .int .i64 c]] H K := by
  refine VCall_fn tbl_at43 rfl ?_
  simp [vf43, h1.stor, h1.one, h2.stor, h2.one, h1.len, h2.len]
  refine wLoop_up W.length (fun i fr L H' => (fr 2 = .lp 0 0 ∧ fr 3 = .lp 1 0 ∧ fr 5 = .int .i64 i) ∧ L[0]? = some [u1, .int .i64 r, .int .i64 c] ∧ L[1]? = some [u2, .int .i64 r, .int .i64 c] ∧ H' = H) ⟨by simp, rfl, rfl, rfl⟩ ?_
  rintro i hi fr L H' ⟨⟨f2, f3, f5⟩, l0, l1, e0⟩
  have e0 := e0.symm
  subst e0
  simp [f2, f3, f5, l0, l1, h1.len]
  refine cond_dec (fun ht => ?_) fun hfl => ?_
  · have ht : i < W.length := by omega
    simp (disch := omega) [f2, f3, f5, l0, l1, h1.at ht, h2.at ht, wr_load h1, wr_load h2, lpId_ept, veqA_4, wrap_i64]
    omega
  · simp; exact hK
/-- the first n delayed -/
structure DlyL (W : List Wr) (fr d : Int) (n : Nat) (l : List Wr) : Prop where
  len : l.length = W.length
  at' : ∀ j, j < W.length → l.getD j default = if j < n then dly fr d (W.getD j default) else W.getD j default
theorem DlyL.start {W : List Wr} {fr d : Int} : DlyL W fr d 0 W := ⟨rfl, fun j _ => by rw [if_neg (by omega)]⟩
theorem DlyL.step {W l : List Wr} {fr d : Int} {n : Nat} (h : DlyL W fr d n l) (hn : n < W.length) : DlyL W fr d (n + 1) (l.set n (dly fr d (W.getD n default))) := by
  have hl := h.len
  refine ⟨by simpa using hl, fun j hj => ?_⟩
  rw [setD_get (by omega)]
  by_cases e : j = n
  · subst e; rw [if_pos rfl, if_pos (by omega)]
  · rw [if_neg e, h.at' j hj]
    by_cases e2 : j < n
    · rw [if_pos e2, if_pos (by omega)]
    · rw [if_neg e2, if_neg (by omega)]
theorem DlyL.skip {W l : List Wr} {fr d : Int} {n : Nat} (h : DlyL W fr d n l) (hn : n < W.length) (hf : ¬ fr ≤ (W.getD n default).f) : DlyL W fr d (n + 1) l := by
  refine ⟨h.len, fun j hj => ?_⟩
  rw [h.at' j hj]
  by_cases e : j = n
  · subst e; rw [if_neg (by omega), if_pos (by omega)]; unfold dly; rw [if_neg hf]
  · by_cases e2 : j < n
    · rw [if_pos e2, if_pos (by omega)]
    · rw [if_neg e2, if_neg (by omega)]
theorem DlyL.done {W l : List Wr} {fr d : Int} (h : DlyL W fr d W.length l) : l = W.map (dly fr d) := by
  apply List.ext_getElem?
  intro j
  have hl := h.len
  by_cases hj : j < W.length
  · have := h.at' j hj
    rw [if_pos hj, getD_of (by omega), getD_of hj] at this
    rw [List.getElem?_eq_getElem (by omega), List.getElem?_map, List.getElem?_eq_getElem hj, this]; rfl
  · rw [List.getElem?_eq_none (by omega), List.getElem?_eq_none (by simp; omega)]
/-- the play that is delayed, and the error -/
def dlE (p : Ply) (f d : Int) : Int := if valP p ≠ 0 then valP p else if (minB f && minB d) = false then 1 else valP ⟨p.W.map (dly f d), p.rd, p.ch⟩
def dlP (p : Ply) (f d : Int) : Ply := if dlE p f d = 0 then ⟨p.W.map (dly f d), p.rd, p.ch⟩ else ⟨[], 0, 0⟩
theorem dlE_ok {p : Ply} {f d : Int} (h : dlE p f d = 0) : valP p = 0 ∧ (0 ≤ d) ∧ valP ⟨p.W.map (dly f d), p.rd, p.ch⟩ = 0 := by
  unfold dlE at h
  split at h
  · rename_i h1; exact absurd h h1
  split at h
  · cases h
  rename_i h1 h2
  have hm : minB f = true ∧ minB d = true := by simpa using h2
  have := hm.2
  simp only [minB, decide_eq_true_eq] at this
  exact ⟨Classical.not_not.1 h1, this.1, h⟩
theorem plot_Delay (hw : LstV wrC H wv W) (hf : I64 a) (hd : I64 b) (hlim : lim ≤ H.length) (hK : ∀ H' v', HX H H' → LstV wrC H' v' (dlP ⟨W, r, c⟩ a b).W → K (.tup [.agg [v', .int .i64 (dlP ⟨W, r, c⟩ a b).rd, .int .i64 (dlP ⟨W, r, c⟩ a b).ch], .int .i64 (dlE ⟨W, r, c⟩ a b)]) H') : VCall tbl lim 41 [.agg [wv, .int .i64 r, .int .i64 c], .int .i64 a, .int .i64 b] H K := by
  refine VCall_fn tbl_at41 rfl ?_
  have hno : ∀ e : Int, e ≠ 0 → dlE ⟨W, r, c⟩ a b = e → ∀ H', HX H H' → K (.tup [.agg [.snil, .int .i64 0, .int .i64 0], .int .i64 e]) H' := fun e he h H' hx => by
    have := hK H' .snil hx (by simp only [dlP, h, if_neg he]; exact .nil)
    simp only [dlP, h, if_neg he] at this
    exact this
  simp [vf41, hw.stor, hw.one]
  refine plot_Validate hw ?_
  by_cases hval : valP ⟨W, r, c⟩ = 0
  case neg =>
    simp [hval]
    exact hno _ hval (by simp [dlE, hval]) _ HX.refl
  obtain ⟨g1, g2, g3, g4, g5⟩ := valP_ok hval
  simp only at g1 g2 g3 g4 g5
  simp [hval]
  refine plot_isMinute ?_
  cases hma : minB a with
  | false =>
    simp
    exact hno 1 (by omega) (by simp [dlE, hval, hma]) _ HX.refl
  | true =>
  simp
  refine plot_isMinute ?_
  cases hmb : minB b with
  | false =>
    simp
    exact hno 1 (by omega) (by simp [dlE, hval, hma, hmb]) _ HX.refl
  | true =>
  have hea : dlE ⟨W, r, c⟩ a b = valP ⟨W.map (dly a b), r, c⟩ := by simp [dlE, hval, hma, hmb]
  simp only [minB, decide_eq_true_eq] at hma hmb
  simp [hw.stor]
  refine clone_wr hw (by omega) hlim fun H1 cv x1 o1 => ?_
  replace x1 : HX H H1 := x1
  have hl1 := x1.len
  simp [o1.lst.stor, o1.lst.one, o1.lst.len, splice]
  refine wLoop_up W.length (fun i fr L H' => ∃ l, (fr 1 = .int .i64 a ∧ fr 2 = .int .i64 b ∧ fr 3 = .lp 0 0 ∧ fr 6 = .lp 1 0 ∧ fr 32 = cv ∧ fr 33 = .int .i64 W.length ∧ fr 34 = .int .i64 i) ∧ L[0]? = some [cv, .int .i64 r, .int .i64 c] ∧ L[1]? = some [.snil, .int .i64 0, .int .i64 0] ∧ OwnT H.length wrC H' cv l ∧ DlyL W a b i l ∧ HX H H') ⟨W, by simp [o1.lst.len], rfl, rfl, o1, DlyL.start, x1⟩ ?_
  rintro i hi fr L H2 ⟨l, ⟨f1, f2, f3, f6, f32, f33, f34⟩, l0, l1, ho, hD, hx⟩
  have hll := hD.len
  simp [f1, f2, f3, f6, f32, f33, f34]
  refine cond_dec (fun ht => ?_) fun hfl => ?_
  · have ht : i < W.length := by omega
    have hil : i < l.length := by omega
    have hg : l.getD i default = W.getD i default := by rw [hD.at' i ht, if_neg (by omega)]
    have hb := wrB_spec (g4 i ht)
    have hA := ho.lst
    have fa2 := hA.faddr (i := i) (j := 2) hil
    have fa3 := hA.faddr (i := i) (j := 3) hil
    simp (disch := omega) [f1, f2, f3, f6, f32, f33, f34, hA.at hil, wr_load hA, hg, lastO, lastS, splice44, iz4, lpId_ept]
    refine cond_dec (fun hge => ?_) fun hge => ?_
    · obtain ⟨H3, H4, s1, o3, s2, o4, e3, e4, k4⟩ := dl_stores (b := b) ho hil (by omega : lim ≤ H.length)
      rw [hg] at s1 o3 s2 o4
      have hA3 := o3
      have hg3 : (l.set i ⟨(W.getD i default).a, (W.getD i default).s, (W.getD i default).f + b, (W.getD i default).t⟩).getD i default = ⟨(W.getD i default).a, (W.getD i default).s, (W.getD i default).f + b, (W.getD i default).t⟩ := by
        rw [setD_get hil, if_pos rfl]
      have hil3 : i < (l.set i ⟨(W.getD i default).a, (W.getD i default).s, (W.getD i default).f + b, (W.getD i default).t⟩).length := by simpa using hil
      have hdl : dly a b (W.getD i default) = ⟨(W.getD i default).a, (W.getD i default).s, (W.getD i default).f + b, (W.getD i default).t + b⟩ := by unfold dly; rw [if_pos hge]
      rw [← hdl] at o4
      have gt3 := fun L => wr_get hA3 (i := i) (j := 3) hil3 (by omega) (L := L)
      rw [hg3] at gt3
      have gf := fun L => wr_get hA (i := i) (j := 2) hil (by omega) (L := L)
      rw [hg] at gf
      have hx4 : HX H H4 := HX.of (by have := hx.len; omega) fun b hb => by rw [k4 b hb]; exact hx.same hb
      simp (disch := omega) [f1, f2, f3, f6, f32, f33, f34, l0, keepL l0, hA.at hil, hA3.at hil3, fa2, fa3, gf, gt3, s1, s2, wrap_i64, -vstore, lpId_ept, lpId_eptf]
      exact ⟨by omega, keepL l1 _, _, o4, hD.step ht, hx4⟩
    · simp (disch := omega) [f1, f2, f3, f6, f32, f33, f34, wrap_i64, keepL l0, keepL l1]
      exact ⟨by omega, l, ho, hD.skip ht (by omega), hx⟩
  · have : i = W.length := by omega
    subst this
    have hdone := hD.done
    subst hdone
    simp [f3, f6, l0, l1, ho.lst.stor]
    refine plot_Validate ho.lst ?_
    by_cases hv2 : valP ⟨W.map (dly a b), r, c⟩ = 0
    · have hl0 : (L.set 0 [cv, V.int .i64 r, V.int .i64 c])[0]? = some [cv, V.int .i64 r, V.int .i64 c] := setLq l0
      simp [hv2, f3, f6, l0, l1, ho.lst.stor, ho.lst.one, splice33, setLq l1]
      have := hK H2 cv hx (by simp only [dlP, hea, hv2, if_true]; exact ho.lst)
      rw [hea, hv2] at this
      simp only [dlP, hea, hv2, if_true] at this
      exact this
    · simp [hv2, f6, l1, splice33, setLq l1]
      exact hno _ hv2 hea _ hx
theorem ref_Delay (hw : LstV wrC H wv W) (hl60 : W.length ≤ 1000) (hf : I64 a) (hd : I64 b) (hlim : lim ≤ H.length) (hK : ∀ H' v', HX H H' → LstV wrC H' v' (dlP ⟨W, r, c⟩ a b).W → K (.tup [.agg [v', .int .i64 (dlP ⟨W, r, c⟩ a b).rd, .int .i64 (dlP ⟨W, r, c⟩ a b).ch], .int .i64 (dlE ⟨W, r, c⟩ a b)]) H') : VCall tbl lim 42 [.agg [wv, .int .i64 r, .int .i64 c], .int .i64 a, .int .i64 b] H K := by
  refine VCall_fn tbl_at42 rfl ?_
  have hno : ∀ e : Int, e ≠ 0 → dlE ⟨W, r, c⟩ a b = e → ∀ H', HX H H' → K (.tup [.agg [.snil, .int .i64 0, .int .i64 0], .int .i64 e]) H' := fun e he h H' hx => by
    have := hK H' .snil hx (by simp only [dlP, h, if_neg he]; exact .nil)
    simp only [dlP, h, if_neg he] at this
    exact this
  simp [vf42, hw.stor, hw.one]
  refine ref_Validate hw ?_
  by_cases hval : valP ⟨W, r, c⟩ = 0
  case neg =>
    simp [hval]
    exact hno _ hval (by simp [dlE, hval]) _ HX.refl
  obtain ⟨g1, g2, g3, g4, g5⟩ := valP_ok hval
  simp only at g1 g2 g3 g4 g5
  simp [hval]
  refine ref_within ?_
  cases hma : minB a with
  | false =>
    have hma2 := hma
    simp only [minB] at hma2
    rw [hma2]
    simp
    exact hno 1 (by omega) (by simp [dlE, hval, hma]) _ HX.refl
  | true =>
  have hma2 := hma
  simp only [minB] at hma2
  rw [hma2]
  simp
  refine ref_within ?_
  cases hmb : minB b with
  | false =>
    have hmb2 := hmb
    simp only [minB] at hmb2
    rw [hmb2]
    simp
    exact hno 1 (by omega) (by simp [dlE, hval, hma, hmb]) _ HX.refl
  | true =>
  have hea : dlE ⟨W, r, c⟩ a b = valP ⟨W.map (dly a b), r, c⟩ := by simp [dlE, hval, hma, hmb]
  have hmb2 := hmb
  simp only [minB] at hmb2
  rw [hmb2]
  simp only [minB, decide_eq_true_eq] at hma hmb
  simp [hw.stor]
  refine ref_Copy hw (by omega) hlim fun H1 cv x1 o1 => ?_
  replace x1 : HX H H1 := x1
  have hl1 := x1.len
  simp [o1.lst.stor, o1.lst.one, splice33]
  refine wLoop_up W.length (fun i fr L H' => ∃ l, (fr 1 = .int .i64 a ∧ fr 2 = .int .i64 b ∧ fr 9 = .lp 2 0 ∧ fr 6 = .lp 1 0 ∧ fr 10 = .int .i64 i) ∧ L[2]? = some [cv, .int .i64 r, .int .i64 c] ∧ L[1]? = some [.snil, .int .i64 0, .int .i64 0] ∧ OwnT H.length wrC H' cv l ∧ DlyL W a b i l ∧ HX H H') ⟨W, by simp, rfl, rfl, o1, DlyL.start, x1⟩ ?_
  rintro i hi fr L H2 ⟨l, ⟨f1, f2, f9, f6, f10⟩, l2, l1, ho, hD, hx⟩
  have hll := hD.len
  simp [f1, f2, f9, f6, f10, l2, ho.lst.len, hll]
  refine cond_dec (fun ht => ?_) fun hfl => ?_
  · have ht : i < W.length := by omega
    have hil : i < l.length := by omega
    have hg : l.getD i default = W.getD i default := by rw [hD.at' i ht, if_neg (by omega)]
    have hb := wrB_spec (g4 i ht)
    have hA := ho.lst
    have fa2 := hA.faddr (i := i) (j := 2) hil
    have fa3 := hA.faddr (i := i) (j := 3) hil
    have gf := fun L => wr_get hA (i := i) (j := 2) hil (by omega) (L := L)
    rw [hg] at gf
    simp (disch := omega) [f1, f2, f9, f6, f10, l2, hA.at hil, fa2, gf, lpId_ept, lpId_eptf]
    refine cond_dec (fun hge => ?_) fun hge => ?_
    · obtain ⟨H3, H4, s1, o3, s2, o4, e3, e4, k4⟩ := dl_stores (b := b) ho hil (by omega : lim ≤ H.length)
      rw [hg] at s1 o3 s2 o4
      have hA3 := o3
      have hg3 : (l.set i ⟨(W.getD i default).a, (W.getD i default).s, (W.getD i default).f + b, (W.getD i default).t⟩).getD i default = ⟨(W.getD i default).a, (W.getD i default).s, (W.getD i default).f + b, (W.getD i default).t⟩ := by
        rw [setD_get hil, if_pos rfl]
      have hil3 : i < (l.set i ⟨(W.getD i default).a, (W.getD i default).s, (W.getD i default).f + b, (W.getD i default).t⟩).length := by simpa using hil
      have hdl : dly a b (W.getD i default) = ⟨(W.getD i default).a, (W.getD i default).s, (W.getD i default).f + b, (W.getD i default).t + b⟩ := by unfold dly; rw [if_pos hge]
      rw [← hdl] at o4
      have gt3 := fun L => wr_get hA3 (i := i) (j := 3) hil3 (by omega) (L := L)
      rw [hg3] at gt3
      have hx4 : HX H H4 := HX.of (by have := hx.len; omega) fun b hb => by rw [k4 b hb]; exact hx.same hb
      simp (disch := omega) [f1, f2, f9, f6, f10, l2, hA.at hil, hA3.at hil3, fa2, fa3, gf, gt3, s1, s2, wrap_i64, -vstore, lpId_ept, lpId_eptf]
      exact ⟨by omega, l1, _, o4, hD.step ht, hx4⟩
    · simp (disch := omega) [f1, f2, f9, f6, f10, wrap_i64, l2, l1]
      exact ⟨by omega, l, ho, hD.skip ht (by omega), hx⟩
  · have : i = W.length := by omega
    subst this
    have hdone := hD.done
    subst hdone
    simp [f9, f6, l2, l1, ho.lst.stor]
    refine ref_Validate ho.lst ?_
    by_cases hv2 : valP ⟨W.map (dly a b), r, c⟩ = 0
    · simp [hv2, f9, f6, l2, l1, ho.lst.stor, ho.lst.one, splice33, setLq l1]
      have := hK H2 cv hx (by simp only [dlP, hea, hv2, if_true]; exact ho.lst)
      rw [hea, hv2] at this
      simp only [dlP, hea, hv2, if_true] at this
      exact this
    · simp [hv2, f6, l1, splice33, setLq l1]
      exact hno _ hv2 hea _ hx
theorem law_PlotDelays {ws : List V} {p : Ply} (hv : PlyV H ws p) (hlim : lim ≤ H.length) (ha : I64 a) (hb : I64 b) (hK : ∀ H', K (.bool true) H') : VCall tbl lim 10 [.agg ws, .int .i64 a, .int .i64 b] H K := by
  cases hv with
  | mk hw hr hc =>
    rename_i wv W r c
    refine VCall_fn tbl_at10 rfl ?_
    simp [vf10, hw.stor, hw.one]
    refine law_long hw ?_
    refine cond_bool (fun h => ?_) fun h => ?_
    · simp
      refine law_known hlim fun H1 _ => ?_
      simp; exact hK _
    have h60 : W.length ≤ 60 := by simp at h; omega
    simp [hw.stor]
    refine ref_Copy hw (by omega) hlim fun H1 ov x1 o1 => ?_
    replace x1 : HX H H1 := x1
    have l1 := x1.len
    have hw1 := hw.mono x1
    simp [o1.lst.stor, o1.lst.one, splice33]
    refine plot_Delay o1.lst ha hb (by omega) fun H2 av x2 h2 => ?_
    replace x2 : HX H1 H2 := x2
    have l2 := x2.len
    have hw2 := hw1.mono x2
    generalize hP : dlP ⟨W, r, c⟩ a b = P at *
    obtain ⟨PW, pr, pc⟩ := P
    replace h2 : LstV wrC H2 av PW := h2
    simp [h2.stor, h2.one, splice33, hw.stor]
    refine ref_Delay hw2 (by omega) ha hb (by omega) fun H3 bv x3 h3 => ?_
    replace x3 : HX H2 H3 := x3
    have l3 := x3.len
    rw [hP] at h3
    replace h3 : LstV wrC H3 bv PW := h3
    have hPl : PW.length ≤ 60 := by
      have : PW = (dlP ⟨W, r, c⟩ a b).W := by rw [hP]
      rw [this]
      unfold dlP
      split
      · simpa using h60
      · simp
    have h23 := h2.mono x3
    rw [hP]
    simp [h3.stor, h3.one, splice33, h23.stor]
    refine ref_Same h23 h3 (by omega) ?_
    have o13 := (o1.lst.mono x2).mono x3
    have hw3 := hw2.mono x3
    simp [o13.stor, hw.stor]
    refine ref_Same o13 hw3 (by omega) ?_
    by_cases he : dlE ⟨W, r, c⟩ a b = 0
    case neg =>
      simp [he]
      refine law_known (by omega) fun H4 _ => ?_
      simp; exact hK _
    obtain ⟨q1, q2, q3⟩ := dlE_ok he
    have hPe : (⟨PW, pr, pc⟩ : Ply) = ⟨W.map (dly a b), r, c⟩ := by rw [← hP]; simp only [dlP, he, if_true]
    simp [he, hw.stor]
    refine plot_Least hw3 (by omega) fun H4 x4 => ?_
    replace x4 : HX H3 H4 := x4
    have l4 := x4.len
    have h24 := h23.mono x4
    simp [q1, h23.stor]
    refine plot_Least h24 (by omega) fun H5 x5 => ?_
    replace x5 : HX H4 H5 := x5
    have l5 := x5.len
    rw [hPe]
    have hle : leP ⟨W.map (dly a b), r, c⟩ ≤ leP ⟨W, r, c⟩ := by
      have q3 : valP ⟨W.map (dly a b), r, c⟩ = 0 := q3
      simp only [leP, q1, q3, if_true]
      have := least_delay (W := W) (r := r) (c := c) (fr := a) q2
      omega
    have q3 : valP ⟨W.map (dly a b), r, c⟩ = 0 := q3
    simp [q3, hle]
    refine law_known (by omega) fun H6 _ => ?_
    simp; exact hK _
end
end Go.Proofs.Ytdipmhdekjlifaa.Vm
