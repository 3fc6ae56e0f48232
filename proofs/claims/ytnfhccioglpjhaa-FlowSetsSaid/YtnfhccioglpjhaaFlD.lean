/- Fields of directions over the machine: what turns along an edge (reference), Validate. -/
import Derived.Test.YtnfhccioglpjhaaFlC
namespace Go.Proofs.Ytnfhccioglpjhaa.Vm
open Go
set_option maxRecDepth 100000
set_option linter.unusedSimpArgs false
set_option linter.unusedVariables false
attribute [-simp] List.getD_eq_getElem?_getD

section
variable {lim : Nat} {H : Hp} {K : V → Hp → Prop} {v d p : V} {D : List Int} {P : List Ed} {W Q x y u : Int} {w q : Nat}
theorem ref_at (hd : SlV H d D) (hp : Vm.stor p = true) (hb : 0 ≤ y * (w : Int) ∧ y * (w : Int) ≤ 1000 ∧ 0 ≤ x ∧ y * (w : Int) + x < D.length ∧ D.length ≤ 1000) (hK : K (.int .i64 (D.getD (y * w + x).toNat 0)) H) : VCall tbl lim 47 [.agg [.int .i64 w, .int .i64 q, d, p], .int .i64 x, .int .i64 y] H K := by
  refine VCall_fn tbl_at47 rfl ?_
  have w1 : IntKind.i64.wrap (y * (w : Int)) = y * w := wrap_i64 (by omega) (by omega)
  simp (disch := omega) [vf47, hd.stor, hp, w1, wrap_i64, hd.addr, hd.load]
  exact hK
theorem ref_parted (hd : Vm.stor d = true) (hp : EdV H p P) (hl : P.length ≤ 1000) (hK : K (.bool (decide (0 < cntE P x y u P.length))) H) : VCall tbl lim 29 [.agg [.int .i64 W, .int .i64 Q, d, p], .agg [.int .i64 x, .int .i64 y, .int .i64 u]] H K := by
  refine VCall_fn tbl_at29 rfl ?_
  simp [vf29, hd, hp.stor, hp.len]
  refine wLoop_up P.length (fun i fr L H' => (fr 2 = .lp 0 0 ∧ fr 3 = .lp 1 0 ∧ fr 5 = .int .i64 i) ∧ L = [[.int .i64 W, .int .i64 Q, d, p], [.int .i64 x, .int .i64 y, .int .i64 u]] ∧ H' = H ∧ cntE P x y u i = 0) ⟨by simp, rfl, rfl, rfl⟩ ?_
  rintro i hi fr L H' ⟨⟨f2, f3, f5⟩, rfl, rfl, hc⟩
  simp [f2, f3, f5, hp.len]
  refine cond_dec (fun ht => ?_) fun hfl => ?_
  · have ht : i < P.length := by omega
    simp (disch := omega) [f2, f3, f5, hp.addr, hp.load, veqA_3]
    refine cond_bool (fun h => ?_) fun h => ?_
    · have h : (P.getD i default).x = x ∧ (P.getD i default).y = y ∧ (P.getD i default).u = u := by simpa using h
      have e : cntE P x y u (i + 1) = cntE P x y u i + 1 := by simp only [cntE]; rw [if_pos h]
      have m := cntE_mono (P := P) (x := x) (y := y) (u := u) (i := i + 1) (j := P.length) (by omega)
      have : 0 < cntE P x y u P.length := by omega
      simp
      simpa [this] using hK
    · have h : ¬ ((P.getD i default).x = x ∧ (P.getD i default).y = y ∧ (P.getD i default).u = u) := by simpa using h
      have e : cntE P x y u (i + 1) = cntE P x y u i := by simp only [cntE]; rw [if_neg h]; omega
      simp (disch := omega) [f2, f3, f5, wrap_i64, e, hc]
      omega
  · have : i = P.length := by omega
    subst this
    simp
    simpa [hc] using hK
theorem ref_turning (hd : SlV H d D) (hp : EdV H p P) (hf : PreF w q D P) (he : isEB w q x y u = true) (hK : K (.int .i64 (tnP w D P x y u)) H) : VCall tbl lim 40 [.agg [.int .i64 w, .int .i64 q, d, p], .agg [.int .i64 x, .int .i64 y, .int .i64 u]] H K := by
  refine VCall_fn tbl_at40 rfl ?_
  have hx := hf.idx he
  have hdd := hf.dlt_bd (x := x) (y := y) (u := u)
  have hpl := hf.pl
  have hw := hf.w1
  have hq := hf.q1
  have hdl := hf.dl
  have hm := mul_bd (a := (w : Int)) (b := (q : Int)) (A := 12) (B := 12) (by omega) (by omega)
  have hlen : D.length ≤ 144 := by omega
  have hc := cntE_bd (P := P) (x := x) (y := y) (u := u) P.length
  have h1 := hf.one (x := x) (y := y) (u := u)
  simp only [tnP] at hK
  have da := hf.dd (y * w + x).toNat
  have db := hf.dd (y * w + x + 1).toNat
  have dc := hf.dd (y * w + x + w).toNat
  rcases isEB_u he with rfl | rfl
  · have ea : y * (w : Int) + (x + 1) = y * w + x + 1 := by omega
    have eu : (0 : Int) = 0 := rfl
    simp (disch := omega) [vf40, hd.stor, hp.stor, wrap_i64, eu]
    refine ref_at (x := x + 1) (y := y) hd hp.stor (by omega) ?_
    simp [hd.stor, hp.stor]
    refine ref_at (x := x) (y := y) hd hp.stor (by omega) ?_
    simp (disch := omega) [ea, wrap_i64, hd.stor, hp.stor]
    refine ref_parted (x := x) (y := y) (u := 0) hd.stor hp (by omega) ?_
    simp
    have ed : dlt w D x y 0 = D.getD (y * w + x + 1).toNat 0 - D.getD (y * w + x).toNat 0 := by simp [dlt]
    rw [ed] at hK hdd
    generalize D.getD (y * w + x + 1).toNat 0 - D.getD (y * w + x).toNat 0 = dl at *
    refine cond_dec (fun h => ?_) fun h => ?_
    · simp (disch := omega) [wrap_i64]
      refine wLoop_up 2 (fun i fr L H' => fr 5 = .int .i64 ((dl + 4) - 8 * (i : Int)) ∧ H' = H ∧ (i = 0 ∨ 4 < (dl + 4) - 8 * ((i : Int) - 1))) ⟨by simp, rfl, .inl rfl⟩ ?_
      rintro i hi fr L H' ⟨f5, rfl, hi2⟩
      simp [f5]
      refine cond_dec (fun ht => ?_) fun hfl => ?_
      · simp (disch := omega) [f5, wrap_i64]
        omega
      · simp [f5]
        refine wLoop_up 2 (fun j fr L H'' => fr 5 = .int .i64 ((dl + 4) - 8 * (i : Int) + 8 * (j : Int)) ∧ H'' = H' ∧ (j = 0 ∨ (dl + 4) - 8 * (i : Int) + 8 * ((j : Int) - 1) < -3)) ⟨by simp [f5], rfl, .inl rfl⟩ ?_
        clear f5
        rintro j hj fr L H' ⟨f5, rfl, hj2⟩
        simp [f5]
        refine cond_dec (fun ht => ?_) fun hfl2 => ?_
        · simp (disch := omega) [f5, wrap_i64]
          omega
        · simp [f5]
          have e : (dl + 4) - 8 * (i : Int) + 8 * (j : Int) = nrm (dl + 4 * cntE P x y 0 P.length) := by unfold nrm; omega
          rw [e]; exact hK
    · simp (disch := omega) [wrap_i64]
      refine wLoop_up 2 (fun i fr L H' => fr 5 = .int .i64 (dl - 8 * (i : Int)) ∧ H' = H ∧ (i = 0 ∨ 4 < dl - 8 * ((i : Int) - 1))) ⟨by simp, rfl, .inl rfl⟩ ?_
      rintro i hi fr L H' ⟨f5, rfl, hi2⟩
      simp [f5]
      refine cond_dec (fun ht => ?_) fun hfl => ?_
      · simp (disch := omega) [f5, wrap_i64]
        omega
      · simp [f5]
        refine wLoop_up 2 (fun j fr L H'' => fr 5 = .int .i64 (dl - 8 * (i : Int) + 8 * (j : Int)) ∧ H'' = H' ∧ (j = 0 ∨ dl - 8 * (i : Int) + 8 * ((j : Int) - 1) < -3)) ⟨by simp [f5], rfl, .inl rfl⟩ ?_
        clear f5
        rintro j hj fr L H' ⟨f5, rfl, hj2⟩
        simp [f5]
        refine cond_dec (fun ht => ?_) fun hfl2 => ?_
        · simp (disch := omega) [f5, wrap_i64]
          omega
        · simp [f5]
          have e : dl - 8 * (i : Int) + 8 * (j : Int) = nrm (dl + 4 * cntE P x y 0 P.length) := by unfold nrm; omega
          rw [e]; exact hK
  · have ea : (y + 1) * (w : Int) + x = y * w + x + w := by rw [Int.add_mul, Int.one_mul]; omega
    have em : (y + 1) * (w : Int) = y * w + w := by rw [Int.add_mul, Int.one_mul]
    have eu : x + 1 - 1 = x := by omega
    simp (disch := omega) [vf40, hd.stor, hp.stor, wrap_i64, eu]
    refine ref_at (x := x) (y := y + 1) hd hp.stor (by omega) ?_
    simp [hd.stor, hp.stor]
    refine ref_at (x := x) (y := y) hd hp.stor (by omega) ?_
    simp (disch := omega) [ea, wrap_i64, hd.stor, hp.stor]
    refine ref_parted (x := x) (y := y) (u := 1) hd.stor hp (by omega) ?_
    simp
    have ed : dlt w D x y 1 = D.getD (y * w + x + w).toNat 0 - D.getD (y * w + x).toNat 0 := by simp [dlt]
    rw [ed] at hK hdd
    generalize D.getD (y * w + x + w).toNat 0 - D.getD (y * w + x).toNat 0 = dl at *
    refine cond_dec (fun h => ?_) fun h => ?_
    · simp (disch := omega) [wrap_i64]
      refine wLoop_up 2 (fun i fr L H' => fr 5 = .int .i64 ((dl + 4) - 8 * (i : Int)) ∧ H' = H ∧ (i = 0 ∨ 4 < (dl + 4) - 8 * ((i : Int) - 1))) ⟨by simp, rfl, .inl rfl⟩ ?_
      rintro i hi fr L H' ⟨f5, rfl, hi2⟩
      simp [f5]
      refine cond_dec (fun ht => ?_) fun hfl => ?_
      · simp (disch := omega) [f5, wrap_i64]
        omega
      · simp [f5]
        refine wLoop_up 2 (fun j fr L H'' => fr 5 = .int .i64 ((dl + 4) - 8 * (i : Int) + 8 * (j : Int)) ∧ H'' = H' ∧ (j = 0 ∨ (dl + 4) - 8 * (i : Int) + 8 * ((j : Int) - 1) < -3)) ⟨by simp [f5], rfl, .inl rfl⟩ ?_
        clear f5
        rintro j hj fr L H' ⟨f5, rfl, hj2⟩
        simp [f5]
        refine cond_dec (fun ht => ?_) fun hfl2 => ?_
        · simp (disch := omega) [f5, wrap_i64]
          omega
        · simp [f5]
          have e : (dl + 4) - 8 * (i : Int) + 8 * (j : Int) = nrm (dl + 4 * cntE P x y 1 P.length) := by unfold nrm; omega
          rw [e]; exact hK
    · simp (disch := omega) [wrap_i64]
      refine wLoop_up 2 (fun i fr L H' => fr 5 = .int .i64 (dl - 8 * (i : Int)) ∧ H' = H ∧ (i = 0 ∨ 4 < dl - 8 * ((i : Int) - 1))) ⟨by simp, rfl, .inl rfl⟩ ?_
      rintro i hi fr L H' ⟨f5, rfl, hi2⟩
      simp [f5]
      refine cond_dec (fun ht => ?_) fun hfl => ?_
      · simp (disch := omega) [f5, wrap_i64]
        omega
      · simp [f5]
        refine wLoop_up 2 (fun j fr L H'' => fr 5 = .int .i64 (dl - 8 * (i : Int) + 8 * (j : Int)) ∧ H'' = H' ∧ (j = 0 ∨ dl - 8 * (i : Int) + 8 * ((j : Int) - 1) < -3)) ⟨by simp [f5], rfl, .inl rfl⟩ ?_
        clear f5
        rintro j hj fr L H' ⟨f5, rfl, hj2⟩
        simp [f5]
        refine cond_dec (fun ht => ?_) fun hfl2 => ?_
        · simp (disch := omega) [f5, wrap_i64]
          omega
        · simp [f5]
          have e : dl - 8 * (i : Int) + 8 * (j : Int) = nrm (dl + 4 * cntE P x y 1 P.length) := by unfold nrm; omega
          rw [e]; exact hK
end
end Go.Proofs.Ytnfhccioglpjhaa.Vm
