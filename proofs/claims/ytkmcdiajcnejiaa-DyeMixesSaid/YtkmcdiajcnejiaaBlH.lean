/- Package dye over the machine: the document's normal blends. -/
import Derived.Test.YtkmcdiajcnejiaaBlG
namespace Go.Proofs.Ytkmcdiajcnejiaa.Vm
open Go
set_option maxRecDepth 100000
set_option maxHeartbeats 1000000
set_option linter.unusedSimpArgs false
set_option linter.unusedVariables false
attribute [-simp] List.getD_eq_getElem?_getD
def mkS (i : Nat) : Sh := ⟨(i / 24 : Nat) + 1, (i % 24 / 4 : Nat), (i % 4 : Nat)⟩
def shL2 (k : Nat) : List Sh := (List.range k).map mkS
theorem shL2_len {k : Nat} : (shL2 k).length = k := by simp [shL2]
theorem shL2_at {k i : Nat} (h : i < k) : (shL2 k).getD i default = mkS i := by
  rw [List.getD_eq_getElem?_getD, shL2, List.getElem?_map, List.getElem?_range h]; rfl
theorem shL2_succ {k : Nat} : shL2 (k + 1) = shL2 k ++ [mkS k] := by
  simp only [shL2, List.range_succ, List.map_append, List.map_cons, List.map_nil]
section
variable {lim : Nat} {H : Hp} {K : V → Hp → Prop} {v w : V} {l m : List Prt} {x y u1 u2 u3 : Int}
theorem ref_shades (hlim : lim ≤ H.length) (hK : ∀ H' v', HX H H' → OwnT H.length shC H' v' (shL2 240) → K v' H') : VCall tbl lim 75 [] H K := by
  refine VCall_fn tbl_at75 rfl ?_
  simp [vf75]
  refine wLoop_up 10 (fun a fr L H' => ∃ q, (fr 2 = .int .i64 ((a : Nat) + 1) ∧ fr 1 = q) ∧ L = [] ∧ HX H H' ∧ OwnT H.length shC H' q (shL2 (a * 24))) ⟨.snil, by simp, rfl, HX.refl, .nil⟩ ?_
  rintro a ha fr L H1 ⟨q, ⟨f2, f1⟩, rfl, x1, hq⟩
  simp [f2, f1]
  refine cond_dec (fun ht => ?_) fun hfl => ?_
  · have ht : a < 10 := by omega
    simp [f2, f1]
    refine wLoop_post 2 (fun fr L H' => ∃ q, (fr 2 = .int .i64 ((a : Nat) + 1) ∧ fr 1 = q) ∧ L = [] ∧ HX H H' ∧ OwnT H.length shC H' q (shL2 ((a + 1) * 24))) ?_ ?_
    · refine wLoop_up 6 (fun b fr L H' => ∃ q, (fr 2 = .int .i64 ((a : Nat) + 1) ∧ fr 3 = .int .i64 (b : Nat) ∧ fr 1 = q) ∧ L = [] ∧ HX H H' ∧ OwnT H.length shC H' q (shL2 (a * 24 + b * 4))) ⟨q, by simp [f2, f1], rfl, x1, hq⟩ ?_
      clear hq f1 f2 x1
      rintro b hb fr L H2 ⟨q, ⟨f2, f3, f1⟩, rfl, x2, hq⟩
      simp [f2, f3, f1]
      refine cond_dec (fun ht2 => ?_) fun hfl2 => ?_
      · have ht2 : b < 6 := by omega
        simp [f2, f3, f1]
        refine wLoop_post 4 (fun fr L H' => ∃ q, (fr 2 = .int .i64 ((a : Nat) + 1) ∧ fr 3 = .int .i64 (b : Nat) ∧ fr 1 = q) ∧ L = [] ∧ HX H H' ∧ OwnT H.length shC H' q (shL2 (a * 24 + (b + 1) * 4))) ?_ ?_
        · refine wLoop_up 4 (fun c fr L H' => ∃ q, (fr 2 = .int .i64 ((a : Nat) + 1) ∧ fr 3 = .int .i64 (b : Nat) ∧ fr 4 = .int .i64 (c : Nat) ∧ fr 1 = q) ∧ L = [] ∧ HX H H' ∧ OwnT H.length shC H' q (shL2 (a * 24 + b * 4 + c))) ⟨q, by simp [f2, f3, f1], rfl, x2, hq⟩ ?_
          clear hq f1 f2 f3 x2
          rintro c hc fr L H3 ⟨q, ⟨f2, f3, f4, f1⟩, rfl, x3, hq⟩
          have l3 := x3.len
          simp [f2, f3, f4, f1]
          refine cond_dec (fun ht3 => ?_) fun hfl3 => ?_
          · have ht3 : c < 4 := by omega
            obtain ⟨v', H', a1, a2, a3, a4, a5, a6⟩ := hq.append (lim := lim) (bytes := 24) (x := mkS (a * 24 + b * 4 + c)) (cs := [.int .i64 ((a : Int) + 1), .int .i64 (b : Int), .int .i64 (c : Int)]) (by
              have e1 : (a * 24 + b * 4 + c) / 24 = a := by omega
              have e2 : (a * 24 + b * 4 + c) % 24 / 4 = b := by omega
              have e3 : (a * 24 + b * 4 + c) % 4 = c := by omega
              show (mkS (a * 24 + b * 4 + c)).cells = _
              simp only [mkS, Sh.cells, e1, e2, e3]) ⟨by omega, by omega⟩ (by omega) (by rw [shL2_len]; omega)
            rw [← shL2_succ] at a2
            simp (disch := omega) [f2, f3, f4, f1, vbslice_some, splice, a1, wrap_i64]
            exact ⟨by omega, a3 _ x3 (Nat.le_refl _), a2⟩
          · have : c = 4 := by omega
            subst this
            simp [f2, f3, f1]
            refine ⟨x3, ?_⟩
            rw [show a * 24 + (b + 1) * 4 = a * 24 + b * 4 + 4 by omega]; exact hq
        clear hq f1 f2 f3 x2
        rintro fr L H3 ⟨q, ⟨f2, f3, f1⟩, rfl, x3, hq⟩
        simp (disch := omega) [f2, f3, f1, wrap_i64]
        exact ⟨by omega, x3, hq⟩
      · have : b = 6 := by omega
        subst this
        simp [f2, f1]
        refine ⟨x2, ?_⟩
        rw [show (a + 1) * 24 = a * 24 + 6 * 4 by omega]; exact hq
    clear hq f1 f2 x1
    rintro fr L H2 ⟨q, ⟨f2, f1⟩, rfl, x2, hq⟩
    simp (disch := omega) [f2, f1, wrap_i64]
    exact ⟨by omega, x2, hq⟩
  · have : a = 10 := by omega
    subst this
    have := hK H1 q x1 hq
    simp [f1, hq.lst.stor]
    exact this
theorem wtN_step {i : Nat} {k : Int} (hi : i < l.length) : wtN (l.take (i + 1)) k = wtN (l.take i) k + if numS (l.getD i default) = k then (l.getD i default).w else 0 := by
  rw [take_snocP hi, wtN_append]
  simp only [wtN, Int.add_zero]
theorem ref_weight (hv : LstV prC H v l) (hl : l.length ≤ 100) (hA : ∀ i, i < l.length → okS (l.getD i default) ∧ 0 ≤ (l.getD i default).w ∧ (l.getD i default).w ≤ 1000) {k : Nat} (hk : k < 240) (hK : K (.int .i64 (wtN l k)) H) :
    VCall tbl lim 76 [v, .agg [.int .i64 (mkS k).l, .int .i64 (mkS k).t, .int .i64 (mkS k).b]] H K := by
  refine VCall_fn tbl_at76 rfl ?_
  have hbd : ∀ i, i ≤ l.length → 0 ≤ wtN (l.take i) k ∧ wtN (l.take i) k ≤ 1000 * (l.take i).length := fun i hi => wtN_bd (by omega) fun p hp => by
    obtain ⟨j, hj, e⟩ := mem_getD (List.mem_of_mem_take hp)
    rw [← e]; have := hA j hj; omega
  simp [vf76]
  refine wLoop_up l.length (fun i fr L H' => (fr 0 = v ∧ fr 3 = .lp 0 0 ∧ fr 6 = .int .i64 i ∧ fr 5 = .int .i64 (wtN (l.take i) k)) ∧ L[0]? = some [.int .i64 (mkS k).l, .int .i64 (mkS k).t, .int .i64 (mkS k).b] ∧ H' = H) ⟨by simp [wtN], rfl, rfl⟩ ?_
  rintro i hi fr L H' ⟨⟨f0, f3, f6, f5⟩, l0, e0⟩
  have e0 := e0.symm
  subst e0
  simp [f0, f3, f6, f5, hv.len]
  refine cond_dec (fun ht => ?_) fun hfl => ?_
  · have ht : i < l.length := by omega
    have fa0 : vfaddr 0 (ept 4 v i) = some (eptf 4 v i 0) := hv.faddr ht
    have fa3 : vfaddr 3 (ept 4 v i) = some (eptf 4 v i 3) := hv.faddr ht
    have b1 := hbd (i + 1) (by omega)
    have hl1 : (l.take (i + 1)).length = i + 1 := by rw [List.length_take]; omega
    rw [hl1] at b1
    have hst := wtN_step (k := (k : Int)) ht
    have hkN : numS (mkP k 0) = k := mkP_N
    have hpo := (hA i ht).1
    by_cases he : numS (l.getD i default) = k
    · have h3 := numS_inj hpo (mkP_ok (w := 0) hk) (he.trans hkN.symm)
      have h3 : (l.getD i default).l = (mkS k).l ∧ (l.getD i default).t = (mkS k).t ∧ (l.getD i default).b = (mkS k).b := h3
      rw [if_pos he] at hst
      simp (disch := omega) [f0, f3, f6, f5, l0, hv.at ht, fa0, fa3, prt_sh hv ht, prt_get hv, lpId_ept, lpId_eptf, veqA_3, eq_true h3.1, eq_true h3.2.1, eq_true h3.2.2, rd4_3, wrap_i64, ← hst]
      first | omega | exact ⟨by omega, by omega⟩
    · have hcf : (decide ((l.getD i default).l = (mkS k).l) && (decide ((l.getD i default).t = (mkS k).t) && decide ((l.getD i default).b = (mkS k).b))) = false := by
        cases hh : (decide ((l.getD i default).l = (mkS k).l) && (decide ((l.getD i default).t = (mkS k).t) && decide ((l.getD i default).b = (mkS k).b))) with
        | false => rfl
        | true =>
          simp only [Bool.and_eq_true, decide_eq_true_eq] at hh
          have : numS (l.getD i default) = numS (mkP k 0) := numS_same hh
          exact absurd (this.trans hkN) he
      rw [if_neg he, Int.add_zero] at hst
      simp (disch := omega) [f0, f3, f6, f5, l0, hv.at ht, fa0, fa3, prt_sh hv ht, prt_get hv, lpId_ept, lpId_eptf, veqA_3, hcf, wrap_i64, hst]
      omega
  · have : i = l.length := by omega
    subst this
    rw [List.take_length] at f5
    simp [f5]
    exact hK
end
end Go.Proofs.Ytkmcdiajcnejiaa.Vm
