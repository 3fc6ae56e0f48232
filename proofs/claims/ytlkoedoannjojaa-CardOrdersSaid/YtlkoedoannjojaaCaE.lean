/- Package card over the machine: Validate, Clock. -/
import Derived.Test.YtlkoedoannjojaaCaD
namespace Go.Proofs.Ytlkoedoannjojaa.Vm
open Go
set_option maxRecDepth 100000
set_option linter.unusedSimpArgs false
set_option linter.unusedVariables false
attribute [-simp] List.getD_eq_getElem?_getD
def shortC (c : List En) : Prop := c.length ≤ 100 ∧ ∀ i, i < c.length → (c.getD i default).t.size ≤ 200
def okB (c : List En) (i : Nat) : Bool := okE1 c i && okE2 c i
def seB (c : List En) (i : Nat) : Bool := seenR c (c.getD i default)
theorem valE_def {c : List En} : valE c = if 60 < c.length then 4 else if allN (okB c) c.length = false then 1 else if allN (seB c) c.length = false then 11 else 0 := Eq.trans rfl rfl
theorem okB_at {c : List En} {i : Nat} (h : okB c i = true) : (0 ≤ (c.getD i default).p ∧ (c.getD i default).p ≤ 2) ∧ (c.getD i default).s = cntE c (c.getD i default).p i + 1 := by
  simp only [okB, okE1, okE2, Bool.and_eq_true, decide_eq_true_eq] at h
  exact ⟨h.1.1, h.2.1⟩
section
variable {lim : Nat} {H : Hp} {K : V → Hp → Prop} {v : V} {c : List En} {e f : En} {s : ByteArray} {n : Int}
theorem card_Validate (hc : LstV enC H v c) (hsh : shortC c) (hK : ∀ H', HX H H' → K (.int .i64 (valE c)) H') : VCall tbl lim 15 [v] H K := by
  refine VCall_fn tbl_at15 rfl ?_
  rw [valE_def] at hK
  by_cases h60 : 60 < c.length
  · simp only [h60, if_true] at hK
    simp [vf15, hc.len, show (60 : Int) < c.length by omega]
    exact hK _ HX.refl
  simp only [h60, if_false] at hK
  simp [vf15, hc.len, show ¬ (60 : Int) < c.length by omega]
  refine wLoop_up c.length (fun i fr L H' => (fr 0 = v ∧ fr 12 = v ∧ fr 13 = .int .i64 c.length ∧ fr 14 = .int .i64 i ∧ fr 3 = .int .i64 (prevP c i) ∧ fr 4 = .lp 0 0) ∧ (∃ X, L = cntsL c i :: X) ∧ HX H H' ∧ allN (okB c) i = true) ⟨by simp [hc.len, prevP], ⟨[], rfl⟩, HX.refl, rfl⟩ ?_
  rintro i hi fr L H' ⟨⟨f0, f12, f13, f14, f3, f4⟩, ⟨X, rfl⟩, hx, hz⟩
  simp [f0, f12, f13, f14, f3, f4]
  refine cond_dec (fun ht => ?_) fun hfl => ?_
  · have ht : i < c.length := by omega
    have hc' := hc.mono hx
    have hno : okB c i = false → ∀ H1, HX H' H1 → K (.int .i64 1) H1 := fun e H1 x1 => by
      have hK := hK H1 (hx.trans x1)
      rw [allN_not ht e] at hK
      exact hK
    have hsz := hsh.2 i ht
    have hle := @cntE_le c (c.getD i default).p i
    have hnx : prevP c (i + 1) = (c.getD i default).p := by simp [prevP]
    generalize hg : c.getD i default = g at hsz hle hnx
    by_cases h1 : g.p < prevP c i
    · have e : okB c i = false := by
        simp only [okB, okE2, hg, Bool.and_eq_false_iff, decide_eq_false_iff_not]; right; omega
      simp (disch := omega) [f0, f12, f13, f14, f3, f4, hc'.at ht, en_load hc', lastO, lastS, hg, h1]
      exact hno e _ HX.refl
    simp (disch := omega) [f0, f12, f13, f14, f3, f4, hc'.at ht, en_load hc', lastO, lastS, hg, h1]
    refine card_isPlace ?_
    by_cases h2 : 0 ≤ g.p ∧ g.p ≤ 2
    · simp (disch := omega) [f0, f12, f13, f14, f3, f4, hg, h1, h2, lastO, lastS]
      refine card_isRight (by omega) fun H1 x1 => ?_
      cases h3 : rightB g.t
      · have e : okB c i = false := by
          simp [okB, okE1, hg, h3]
        simp (disch := omega) [f0, f12, f13, f14, f3, f4, hg, h1, h2, lastO, lastS]
        exact hno e _ x1
      by_cases h4 : g.s = cntE c g.p i + 1
      · have e : okB c i = true := by
          simp only [okB, okE1, okE2, hg, h3, Bool.and_true, Bool.and_eq_true, decide_eq_true_eq]; exact ⟨h2, h4, by omega⟩
        have r1 := cnt_rd (c := c) (i := i) h2
        have s1 := cnt_st (c := c) (i := i) (by rw [hg]; exact h2)
        rw [hg] at s1
        simp (disch := omega) [f0, f12, f13, f14, f3, f4, hg, h1, h2, lastO, lastS, r1, wrap_i64, h4, cnt_len, show g.p.toNat ≤ 2 by omega, s1, allN, e, hz, hnx]
        exact ⟨by omega, hx.trans x1⟩
      · have e : okB c i = false := by
          simp only [okB, okE2, hg, Bool.and_eq_false_iff, decide_eq_false_iff_not]; right; omega
        have r1 := cnt_rd (c := c) (i := i) h2
        simp (disch := omega) [f0, f12, f13, f14, f3, f4, hg, h1, h2, lastO, lastS, r1, wrap_i64, h4]
        exact hno e _ x1
    · have e : okB c i = false := by
        simp only [okB, okE1, hg, Bool.and_eq_false_iff, decide_eq_false_iff_not]; left; left; exact h2
      simp (disch := omega) [f0, f12, f13, f14, f3, f4, hg, h1, eq_false h2, lastO, lastS]
      exact hno e _ HX.refl
  have : i = c.length := by omega
  subst this
  simp only [hz, Bool.true_eq_false, if_false] at hK
  simp [f0, (hc.mono hx).len]
  have hok : ∀ i, i < c.length → okB c i = true := fun i hi => allN_at hz hi
  refine wLoop_up c.length (fun i fr L H1 => (fr 0 = v ∧ fr 52 = v ∧ fr 53 = .int .i64 c.length ∧ fr 54 = .int .i64 i ∧ fr 4 = .lp 0 0) ∧ L[0]? = some (cntsL c c.length) ∧ HX H H1 ∧ allN (seB c) i = true) ⟨by simp [f0, f4, hc.len], rfl, hx, rfl⟩ ?_
  clear f0 f12 f13 f14 f3 f4 hx
  rintro i hi fr L H' ⟨⟨f0, f52, f53, f54, f4⟩, l0, hx, hz2⟩
  have k0 := keepL l0
  simp [f0, f52, f53, f54, f4]
  refine cond_dec (fun ht => ?_) fun hfl => ?_
  · have ht : i < c.length := by omega
    have hc' := hc.mono hx
    have ho := okB_at (hok i ht)
    have hle := @cntE_le c (c.getD i default).p i
    simp (disch := omega) [f0, f52, f53, f54, f4, hc'.at ht, en_load hc', lastO, lastS, k0, cnt_w, hc'.stor]
    refine card_seesRightly (e := c.getD i default) hc' (by omega) (fun j hj => (okB_at (hok j hj)).1) ho.1 (by omega) ?_
    cases h : seenR c (c.getD i default)
    · simp
      have hK := hK _ hx
      rw [allN_not (f := seB c) ht h] at hK
      exact hK
    · have h : seB c i = true := h
      simp (disch := omega) [f0, f52, f53, f54, f4, wrap_i64, allN, h, hz2, k0]
      exact ⟨by omega, hx⟩
  have : i = c.length := by omega
  subst this
  have hK := hK _ hx
  rw [hz2] at hK
  simp
  exact hK
theorem ref_wrongly (hc : LstV enC H v c) (hl : c.length ≤ 60) (hp : ∀ i, i < c.length → 0 ≤ (c.getD i default).p ∧ (c.getD i default).p ≤ 2) (he : 0 ≤ e.p ∧ e.p ≤ 2) (hs : 1 ≤ e.s ∧ e.s ≤ 100)
    (hK : K (.bool (!seenR c e)) H) : VCall tbl lim 47 [v, .agg e.cells] H K := by
  refine VCall_fn tbl_at47 rfl ?_
  simp (disch := omega) [vf47, En.cells, hc.stor]
  refine ref_clock hc hl hp ?_
  simp (disch := omega) [cnt_sp]
  rw [seenR, ← wq_eq he] at hK
  generalize hL0 : ([[.int .i64 e.p, .int .i64 e.s, .int .i64 e.a, .int .i64 e.b, .int .i64 e.c, .str e.t], cntsL c c.length] : Lo) = L0
  have l1 : L0[1]? = some (cntsL c c.length) := by rw [← hL0]; rfl
  have l0 : L0[0]? = some [.int .i64 e.p, .int .i64 e.s, .int .i64 e.a, .int .i64 e.b, .int .i64 e.c, .str e.t] := by rw [← hL0]; rfl
  clear hL0
  refine wLoop_up 3 (fun i fr L H' => (fr 0 = v ∧ fr 3 = .lp 0 0 ∧ fr 5 = .lp 1 0 ∧ fr 6 = .int .i64 i) ∧ L = L0 ∧ H' = H ∧ allN (wq c e) i = true) ⟨by simp, rfl, rfl, rfl⟩ ?_
  rintro i hi fr L H' ⟨⟨f0, f3, f5, f6⟩, rfl, e0, hz⟩
  have e0 := e0.symm
  subst e0
  simp [f0, f3, f5, f6]
  refine cond_dec (fun ht => ?_) fun hfl => ?_
  · have ht : i < 3 := by omega
    have b1 := en_rd (p := e.p) (s := e.s) (a := e.a) (b := e.b) (c := e.c) (t := e.t) ht
    have b2 := cnt_rdN (c := c) (i := c.length) ht
    have hw : wq c e i = !((decide ((i : Int) = e.p) && !decide (tri e.a e.b e.c i = e.s - 1)) || !decide (0 ≤ tri e.a e.b e.c i ∧ tri e.a e.b e.c i ≤ triC c c.length i)) := Eq.trans rfl rfl
    have hno : wq c e i = false → K (.bool true) H := fun h => by
      have hK := hK
      rw [allN_not ht h] at hK
      exact hK
    have hyes : wq c e i = true → allN (wq c e) (i + 1) = true := fun h => by simp [allN, hz, h]
    by_cases h1 : (i : Int) = e.p
    · by_cases h2 : tri e.a e.b e.c i = e.s - 1
      · by_cases h3 : 0 ≤ tri e.a e.b e.c i ∧ tri e.a e.b e.c i ≤ triC c c.length i
        · have h := hw
          rw [decide_eq_true h1, decide_eq_true h2, decide_eq_true h3] at h
          simp (disch := omega) [f0, f3, f5, f6, l0, l1, b1, b2, wrap_i64, eq_true h1, eq_true h2, show ¬ tri e.a e.b e.c i < 0 by omega, show ¬ triC c c.length i < tri e.a e.b e.c i by omega, hyes h]
          omega
        · have h := hw
          rw [decide_eq_true h1, decide_eq_true h2, decide_eq_false h3] at h
          by_cases h4 : tri e.a e.b e.c i < 0
          · omega
          · simp (disch := omega) [f0, f3, f5, f6, l0, l1, b1, b2, wrap_i64, eq_true h1, eq_true h2, h4, show triC c c.length i < tri e.a e.b e.c i by omega]
            exact hno h
      · have h := hw
        rw [decide_eq_true h1, decide_eq_false h2] at h
        simp (disch := omega) [f0, f3, f5, f6, l0, l1, b1, b2, wrap_i64, eq_true h1, eq_false h2]
        exact hno h
    · by_cases h3 : 0 ≤ tri e.a e.b e.c i ∧ tri e.a e.b e.c i ≤ triC c c.length i
      · have h := hw
        rw [decide_eq_false h1, decide_eq_true h3] at h
        simp (disch := omega) [f0, f3, f5, f6, l0, l1, b1, b2, wrap_i64, eq_false h1, show ¬ tri e.a e.b e.c i < 0 by omega, show ¬ triC c c.length i < tri e.a e.b e.c i by omega, hyes h]
        omega
      · have h := hw
        rw [decide_eq_false h1, decide_eq_false h3] at h
        by_cases h4 : tri e.a e.b e.c i < 0
        · simp (disch := omega) [f0, f3, f5, f6, l0, l1, b1, b2, wrap_i64, eq_false h1, h4]
          exact hno h
        · simp (disch := omega) [f0, f3, f5, f6, l0, l1, b1, b2, wrap_i64, eq_false h1, h4, show triC c c.length i < tri e.a e.b e.c i by omega]
          exact hno h
  have : i = 3 := by omega
  subst this
  rw [hz, Bool.true_and] at hK
  simp [f0]
  refine wLoop_up c.length (fun i fr L H' => (fr 0 = v ∧ fr 3 = .lp 0 0 ∧ fr 7 = .int .i64 i) ∧ L[0]? = some [.int .i64 e.p, .int .i64 e.s, .int .i64 e.a, .int .i64 e.b, .int .i64 e.c, .str e.t] ∧ H' = H ∧ allN (trB c e) i = true) ⟨by simp [f0, f3], l0, rfl, rfl⟩ ?_
  clear f0 f3 f5 f6 l0 l1
  rintro i hi fr L H' ⟨⟨f0, f3, f7⟩, l0, e0, hz2⟩
  have e0 := e0.symm
  subst e0
  simp [f0, f3, f7, hc.len]
  refine cond_dec (fun ht => ?_) fun hfl => ?_
  · have ht : i < c.length := by omega
    have hg := hp i ht
    simp (disch := omega) [f0, f3, f7]
    refine wLoop_up 3 (fun j fr L' H' => (fr 0 = v ∧ fr 3 = .lp 0 0 ∧ fr 7 = .int .i64 i ∧ fr 8 = .int .i64 j) ∧ L'[0]? = some [.int .i64 e.p, .int .i64 e.s, .int .i64 e.a, .int .i64 e.b, .int .i64 e.c, .str e.t] ∧ H' = H ∧ allN (sq e (c.getD i default)) j = true) ⟨by simp [f0, f3, f7], l0, rfl, rfl⟩ ?_
    clear f0 f3 f7 l0
    rintro j hj fr L' H' ⟨⟨f0, f3, f7, f8⟩, l0, e0, hz3⟩
    have e0 := e0.symm
    subst e0
    simp [f0, f3, f7, f8]
    refine cond_dec (fun ht2 => ?_) fun hfl => ?_
    · have ht2 : j < 3 := by omega
      have b1 := en_rd (p := e.p) (s := e.s) (a := e.a) (b := e.b) (c := e.c) (t := e.t) ht2
      have b2 : vload none L' H (eptf 6 v i (2 + j)) = some (.int .i64 (tri (c.getD i default).a (c.getD i default).b (c.getD i default).c j)) := by
        rw [en_get hc ht (by omega)]; exact en_rd ht2
      simp (disch := omega) [f0, f3, f7, f8, l0, hc.at ht, en_load hc]
      refine ref_seen (e := e) (f := c.getD i default) hg ?_
      cases hsb : seesB e (c.getD i default)
      · have h : sq e (c.getD i default) j = true := by simp [sq, hsb]
        simp (disch := omega) [f0, f3, f7, f8, l0, wrap_i64, allN, h, hz3]
        omega
      simp (disch := omega) [f0, f3, f7, f8, l0, hc.at ht, hc.faddr ht, hc.faddr2 ht, b1, b2]
      refine cond_dec (fun h => ?_) fun h => ?_
      · have h : sq e (c.getD i default) j = false := by
          have h' : e.at j < (c.getD i default).at j := h
          simp [sq, hsb, h']
        have h2 : trB c e i = false := by
          unfold trB; rw [sq_eq]; exact allN_not ht2 h
        rw [allN_not ht h2] at hK
        simp; exact hK
      · have h : sq e (c.getD i default) j = true := by
          have h' : ¬ e.at j < (c.getD i default).at j := h
          simp [sq, hsb, h']
        simp (disch := omega) [f0, f3, f7, f8, l0, wrap_i64, allN, h, hz3]
        omega
    have : j = 3 := by omega
    subst this
    have h2 : trB c e i = true := by unfold trB; rw [sq_eq]; exact hz3
    simp (disch := omega) [f0, f3, f7, wrap_i64, allN, hz2, h2, l0]
    omega
  have : i = c.length := by omega
  subst this
  rw [hz2] at hK
  simp
  exact hK
end
end Go.Proofs.Ytlkoedoannjojaa.Vm
