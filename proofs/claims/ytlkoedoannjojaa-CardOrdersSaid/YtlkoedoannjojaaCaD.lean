/- Package card over the machine: clocks, what an entry may have seen. -/
import Derived.Test.YtlkoedoannjojaaCaC
namespace Go.Proofs.Ytlkoedoannjojaa.Vm
open Go
set_option maxRecDepth 100000
set_option linter.unusedSimpArgs false
set_option linter.unusedVariables false
attribute [-simp] List.getD_eq_getElem?_getD
def cntsL (c : List En) (n : Nat) : List V := [.int .i64 (cntE c 0 n), .int .i64 (cntE c 1 n), .int .i64 (cntE c 2 n)]
section
variable {lim : Nat} {H : Hp} {K : V → Hp → Prop} {v : V} {c : List En} {e f : En} {s : ByteArray} {n : Int}
theorem en_load (h : LstV enC H v c) {i : Nat} (hi : i < c.length) {L : Lo} : vload (some 6) L H (ept 6 v i) = some (.agg [.int .i64 (c.getD i default).p, .int .i64 (c.getD i default).s, .int .i64 (c.getD i default).a, .int .i64 (c.getD i default).b, .int .i64 (c.getD i default).c, .str (c.getD i default).t]) := h.load hi
theorem en_get (h : LstV enC H v c) {i j : Nat} (hi : i < c.length) (hj : j < 6) {L : Lo} : vload none L H (eptf 6 v i j) = rd none [.int .i64 (c.getD i default).p, .int .i64 (c.getD i default).s, .int .i64 (c.getD i default).a, .int .i64 (c.getD i default).b, .int .i64 (c.getD i default).c, .str (c.getD i default).t] j := h.rd1 hi hj
theorem cnt_st {c : List En} {i : Nat} (h : 0 ≤ (c.getD i default).p ∧ (c.getD i default).p ≤ 2) : splice (cntsL c i) (c.getD i default).p.toNat [.int .i64 (cntE c (c.getD i default).p i + 1)] = cntsL c (i + 1) := by
  rcases (show (c.getD i default).p = 0 ∨ (c.getD i default).p = 1 ∨ (c.getD i default).p = 2 by omega) with hp | hp | hp <;> simp [cntsL, cntE, hp, splice]
theorem cnt_rd {c : List En} {i : Nat} {q : Int} (h : 0 ≤ q ∧ q ≤ 2) : rd none (cntsL c i) q.toNat = some (.int .i64 (cntE c q i)) := by
  rcases (show q = 0 ∨ q = 1 ∨ q = 2 by omega) with hp | hp | hp <;> subst hp <;> rfl
theorem cnt_rdN {c : List En} {i q : Nat} (h : q < 3) : rd none (cntsL c i) q = some (.int .i64 (triC c i q)) := tri_rd h
theorem cnt_len {c : List En} {i : Nat} : (cntsL c i).length = 3 := rfl
theorem cnt_w {c : List En} {i : Nat} : rd (some 3) (cntsL c i) 0 = some (.agg (cntsL c i)) := Eq.trans rfl rfl
theorem cnt_sp {c : List En} {i : Nat} {x y z : V} : splice [x, y, z] 0 (cntsL c i) = cntsL c i := splice33
theorem vstore_in {L : Lo} {id off : Nat} {cs : List V} {x : V} (h : L[id]? = some cs) (h1 : cellsV x = [x]) (hs : stor x = true) (ho : off + 1 ≤ cs.length) : vstore lim L H (.lp id off) x 1 = some (L.set id (splice cs off [x]), H) := by
  simp [vstore, h, h1, hs, ho]
theorem card_clock (hc : LstV enC H v c) (hl : c.length ≤ 60) (hp : ∀ i, i < c.length → 0 ≤ (c.getD i default).p ∧ (c.getD i default).p ≤ 2) (hK : K (.agg (cntsL c c.length)) H) : VCall tbl lim 41 [v] H K := by
  refine VCall_fn tbl_at41 rfl ?_
  simp [vf41, hc.len]
  refine wLoop_up c.length (fun i fr L H' => (fr 6 = v ∧ fr 7 = .int .i64 c.length ∧ fr 8 = .int .i64 i ∧ fr 2 = .lp 0 0 ∧ fr 3 = .lp 1 0) ∧ (∃ X, L = [.int .i64 0, .int .i64 0, .int .i64 0] :: cntsL c i :: X) ∧ H' = H) ⟨by simp [hc.len], ⟨[], rfl⟩, rfl⟩ ?_
  rintro i hi fr L H' ⟨⟨f6, f7, f8, f2, f3⟩, ⟨X, rfl⟩, e0⟩
  have e0 := e0.symm
  subst e0
  simp [f6, f7, f8, f2, f3]
  refine cond_dec (fun ht => ?_) fun hfl => ?_
  · have ht : i < c.length := by omega
    have hpi := hp i ht
    have hle := @cntE_le c (c.getD i default).p i
    simp (disch := omega) [f6, f7, f8, f2, f3, hc.at ht, en_load hc, lastO, lastS, cnt_rd hpi, wrap_i64, cnt_len, show (c.getD i default).p.toNat ≤ 2 by omega, cnt_st hpi]
    omega
  have : i = c.length := by omega
  subst this
  simp [f2, f3, cnt_w, cnt_sp, cnt_len]
  exact hK
theorem ref_clock (hc : LstV enC H v c) (hl : c.length ≤ 60) (hp : ∀ i, i < c.length → 0 ≤ (c.getD i default).p ∧ (c.getD i default).p ≤ 2) (hK : K (.agg (cntsL c c.length)) H) : VCall tbl lim 42 [v] H K := by
  refine VCall_fn tbl_at42 rfl ?_
  simp [vf42, hc.len]
  refine wLoop_up c.length (fun i fr L H' => (fr 0 = v ∧ fr 4 = .int .i64 i ∧ fr 2 = .lp 0 0 ∧ fr 3 = .lp 1 0) ∧ L = [[.int .i64 0, .int .i64 0, .int .i64 0], cntsL c i] ∧ H' = H) ⟨by simp [hc.len], rfl, rfl⟩ ?_
  rintro i hi fr L H' ⟨⟨f0, f4, f2, f3⟩, rfl, e0⟩
  have e0 := e0.symm
  subst e0
  simp [f0, f4, f2, f3, hc.len]
  refine cond_dec (fun ht => ?_) fun hfl => ?_
  · have ht : i < c.length := by omega
    have hpi := hp i ht
    have hle := @cntE_le c (c.getD i default).p i
    simp (disch := omega) [f0, f4, f2, f3, hc.at ht, hc.faddr ht, en_get hc ht, cnt_rd hpi, wrap_i64, cnt_len, show (c.getD i default).p.toNat ≤ 2 by omega, cnt_st hpi]
    omega
  have : i = c.length := by omega
  subst this
  simp [f2, f3, cnt_w, cnt_sp, cnt_len]
  exact hK
theorem card_seesRightly (hc : LstV enC H v c) (hl : c.length ≤ 60) (hp : ∀ i, i < c.length → 0 ≤ (c.getD i default).p ∧ (c.getD i default).p ≤ 2) (he : 0 ≤ e.p ∧ e.p ≤ 2) (hs : 1 ≤ e.s ∧ e.s ≤ 100)
    (hK : K (.bool (seenR c e)) H) : VCall tbl lim 45 [v, .agg (cntsL c c.length), .agg e.cells] H K := by
  refine VCall_fn tbl_at45 rfl ?_
  have a1 := en_rd (p := e.p) (s := e.s) (a := e.a) (b := e.b) (c := e.c) (t := e.t) (q := e.p.toNat) (by omega)
  simp (disch := omega) [vf45, En.cells, a1, wrap_i64]
  refine cond_bool (fun h => ?_) fun h => ?_
  · have h : selfB e = false := by
      simp only [selfB, En.at]; simp at h; exact decide_eq_false h
    simp only [seenR, h, Bool.false_and] at hK
    simp; exact hK
  have h : selfB e = true := by
    simp only [selfB, En.at]; simp at h; exact decide_eq_true h
  simp only [seenR, h, Bool.true_and, rangB_eq] at hK
  simp
  generalize hL0 : ([cntsL c c.length, [.int .i64 e.p, .int .i64 e.s, .int .i64 e.a, .int .i64 e.b, .int .i64 e.c, .str e.t]] : Lo) = L0
  have l0 : L0[0]? = some (cntsL c c.length) := by rw [← hL0]; rfl
  have l1 : L0[1]? = some [.int .i64 e.p, .int .i64 e.s, .int .i64 e.a, .int .i64 e.b, .int .i64 e.c, .str e.t] := by rw [← hL0]; rfl
  clear hL0
  refine wLoop_up 3 (fun i fr L H' => (fr 0 = v ∧ fr 4 = .lp 0 0 ∧ fr 5 = .lp 1 0 ∧ fr 22 = .agg [.int .i64 e.a, .int .i64 e.b, .int .i64 e.c] ∧ fr 23 = .int .i64 i) ∧ L = L0 ∧ H' = H ∧ allN (rq c e) i = true) ⟨by simp, rfl, rfl, rfl⟩ ?_
  rintro i hi fr L H' ⟨⟨f0, f4, f5, f22, f23⟩, rfl, e0, hz⟩
  have e0 := e0.symm
  subst e0
  simp [f0, f4, f5, f22, f23]
  refine cond_dec (fun ht => ?_) fun hfl => ?_
  · have ht : i < 3 := by omega
    have b1 := tri_rd (a := e.a) (b := e.b) (c := e.c) ht
    have b2 := cnt_rdN (c := c) (i := c.length) ht
    simp (disch := omega) [f0, f4, f5, f22, f23, b1, l0, b2]
    refine cond_bool (fun h => ?_) fun h => ?_
    · have h : rq c e i = false := by 
        have hh : ¬ (0 ≤ e.at i ∧ e.at i ≤ triC c c.length i) := by
          show ¬ (0 ≤ tri e.a e.b e.c i ∧ tri e.a e.b e.c i ≤ triC c c.length i)
          simp only [Bool.or_eq_true, decide_eq_true_eq] at h; omega
        exact decide_eq_false hh
      rw [allN_not ht h] at hK
      simp; exact hK
    · have h : rq c e i = true := by
        have hh : 0 ≤ e.at i ∧ e.at i ≤ triC c c.length i := by
          show 0 ≤ tri e.a e.b e.c i ∧ tri e.a e.b e.c i ≤ triC c c.length i
          simp only [Bool.or_eq_false_iff, decide_eq_false_iff_not] at h; omega
        exact decide_eq_true hh
      simp (disch := omega) [f0, f4, f5, f22, f23, wrap_i64, allN, h, hz]
      omega
  have : i = 3 := by omega
  subst this
  simp only [hz, Bool.true_and] at hK
  simp [f0, hc.len]
  refine wLoop_up c.length (fun i fr L H' => (fr 37 = v ∧ fr 38 = .int .i64 c.length ∧ fr 39 = .int .i64 i ∧ fr 5 = .lp 1 0) ∧ L[1]? = some [.int .i64 e.p, .int .i64 e.s, .int .i64 e.a, .int .i64 e.b, .int .i64 e.c, .str e.t] ∧ H' = H ∧ allN (trB c e) i = true) ⟨by simp [f0, f5, hc.len], l1, rfl, rfl⟩ ?_
  clear f0 f4 f5 f22 f23 l0 l1
  rintro i hi fr L H' ⟨⟨f37, f38, f39, f5⟩, l1, e0, hz2⟩
  have e0 := e0.symm
  subst e0
  simp [f37, f38, f39, f5]
  refine cond_dec (fun ht => ?_) fun hfl => ?_
  · have ht : i < c.length := by omega
    have k1 := keepL l1
    simp (disch := omega) [f37, f38, f39, f5, hc.at ht, en_load hc, lastO, lastS]
    generalize hf : c.getD i default = g
    have hg := hp i ht
    rw [hf] at hg
    generalize hL1 : L ++ [[.int .i64 g.p, .int .i64 g.s, .int .i64 g.a, .int .i64 g.b, .int .i64 g.c, .str g.t]] = L1
    have l2 : L1[L.length]? = some [.int .i64 g.p, .int .i64 g.s, .int .i64 g.a, .int .i64 g.b, .int .i64 g.c, .str g.t] := by rw [← hL1]; exact lastO
    have l3 : L1[1]? = some [.int .i64 e.p, .int .i64 e.s, .int .i64 e.a, .int .i64 e.b, .int .i64 e.c, .str e.t] := by rw [← hL1]; exact k1 _
    clear hL1
    refine wLoop_up 3 (fun j fr L' H' => (fr 37 = v ∧ fr 38 = .int .i64 c.length ∧ fr 39 = .int .i64 i ∧ fr 5 = .lp 1 0 ∧ fr 10 = .lp L.length 0 ∧ fr 43 = .int .i64 j) ∧ L' = L1 ∧ H' = H ∧ allN (sq e g) j = true) ⟨by simp [f37, f38, f39, f5], rfl, rfl, rfl⟩ ?_
    clear f37 f38 f39 f5 l1 k1
    rintro j hj fr L' H' ⟨⟨f37, f38, f39, f5, f10, f43⟩, rfl, e0, hz3⟩
    have e0 := e0.symm
    subst e0
    simp [f37, f38, f39, f5, f10, f43]
    refine cond_dec (fun ht2 => ?_) fun hfl => ?_
    · have ht2 : j < 3 := by omega
      have b1 := en_rd (p := e.p) (s := e.s) (a := e.a) (b := e.b) (c := e.c) (t := e.t) ht2
      have b2 := en_rd (p := g.p) (s := g.s) (a := g.a) (b := g.b) (c := g.c) (t := g.t) ht2
      simp (disch := omega) [f37, f38, f39, f5, f10, f43, l2, l3]
      refine card_hasSeen (e := e) (f := g) hg ?_
      cases hsb : seesB e g
      · have h : sq e g j = true := by simp [sq, hsb]
        simp (disch := omega) [f37, f38, f39, f5, f10, f43, l2, l3, wrap_i64, allN, h, hz3]
        omega
      simp (disch := omega) [f37, f38, f39, f5, f10, f43, l2, l3, b1, b2]
      refine cond_dec (fun h => ?_) fun h => ?_
      · have h : sq e g j = false := by
          have h' : e.at j < g.at j := h
          simp [sq, hsb, h']
        have h2 : trB c e i = false := by
          unfold trB; rw [hf, sq_eq]; exact allN_not ht2 h
        rw [allN_not ht h2] at hK
        simp; exact hK
      · have h : sq e g j = true := by
          have h' : ¬ e.at j < g.at j := h
          simp [sq, hsb, h']
        simp (disch := omega) [f37, f38, f39, f5, f10, f43, l2, l3, wrap_i64, allN, h, hz3]
        omega
    have : j = 3 := by omega
    subst this
    have h2 : trB c e i = true := by unfold trB; rw [hf, sq_eq]; exact hz3
    simp (disch := omega) [f37, f38, f39, f5, wrap_i64, allN, hz2, h2, l3]
    omega
  have : i = c.length := by omega
  subst this
  rw [hz2] at hK
  simp
  exact hK
end
end Go.Proofs.Ytlkoedoannjojaa.Vm
