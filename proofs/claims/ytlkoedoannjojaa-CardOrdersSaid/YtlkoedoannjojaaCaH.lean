/- Package card over the machine: CardSees. -/
import Derived.Test.YtlkoedoannjojaaCaG
namespace Go.Proofs.Ytlkoedoannjojaa.Vm
open Go
set_option maxRecDepth 100000
set_option linter.unusedSimpArgs false
set_option linter.unusedVariables false
attribute [-simp] List.getD_eq_getElem?_getD
section
variable {lim : Nat} {H : Hp} {K : V → Hp → Prop} {v : V} {c : List En} {e f : En} {s : ByteArray} {n x y : Int}
theorem ref_HasSeen (hc : LstV enC H v c) (hsh : shortC c) (hK : K (.tup [.bool (hasP c x y), .int .i64 (hasE c x y)]) H) : VCall tbl lim 23 [v, .int .i64 x, .int .i64 y] H K := by
  refine VCall_fn tbl_at23 rfl ?_
  simp [vf23, hc.stor]
  refine ref_Validate hc hsh ?_
  simp
  by_cases h : valE c = 0
  · have hno : (inR c x && inR c y) = false → K (.tup [.bool false, .int .i64 5]) H := fun e => by
      have e1 : hasP c x y = false := by simp only [hasP, h, ne_eq, not_true_eq_false, if_false, e]; rfl
      have e2 : hasE c x y = 5 := by simp only [hasE, h, ne_eq, not_true_eq_false, if_false, e]; rfl
      rw [e1, e2] at hK
      exact hK
    by_cases h1 : x < 0
    · have e : (inR c x && inR c y) = false := by rw [show inR c x = false from decide_eq_false (by omega)]; rfl
      simp [h, hc.stor, hc.len, h1]
      exact hno e
    by_cases h2 : y < 0
    · have e : (inR c x && inR c y) = false := by rw [show inR c y = false from decide_eq_false (by omega), Bool.and_false]
      simp [h, hc.stor, hc.len, h1, h2]
      exact hno e
    by_cases h3 : (c.length : Int) ≤ x
    · have e : (inR c x && inR c y) = false := by rw [show inR c x = false from decide_eq_false (by omega)]; rfl
      simp [h, hc.stor, hc.len, h1, h2, h3]
      exact hno e
    by_cases h4 : (c.length : Int) ≤ y
    · have e : (inR c x && inR c y) = false := by rw [show inR c y = false from decide_eq_false (by omega), Bool.and_false]
      simp [h, hc.stor, hc.len, h1, h2, h3, h4]
      exact hno e
    have e : (inR c x && inR c y) = true := by rw [show inR c x = true from decide_eq_true (by omega), show inR c y = true from decide_eq_true (by omega)]; rfl
    have e1 : hasP c x y = seesB (c.getD x.toNat default) (c.getD y.toNat default) := by simp only [hasP, h, ne_eq, not_true_eq_false, if_false, e]; rfl
    have e2 : hasE c x y = 0 := by simp only [hasE, h, ne_eq, not_true_eq_false, if_false, e]; rfl
    rw [e1, e2] at hK
    have a1 := hc.addr (i := x) (by omega)
    have a2 := hc.addr (i := y) (by omega)
    simp (disch := omega) [h, hc.stor, hc.len, h1, h2, h3, h4, a1, a2, en_load hc]
    refine ref_seen (e := c.getD x.toNat default) (f := c.getD y.toNat default) (val_pl h (by omega)) ?_
    simp
    exact hK
  · have e1 : hasP c x y = false := by simp [hasP, h]
    have e2 : hasE c x y = valE c := by simp [hasE, h]
    rw [e1, e2] at hK
    simp [eq_false h]
    exact hK
theorem ref_Independent (hc : LstV enC H v c) (hsh : shortC c) (hK : K (.tup [.int .i64 (indP c), .int .i64 (valE c)]) H) : VCall tbl lim 25 [v] H K := by
  refine VCall_fn tbl_at25 rfl ?_
  simp [vf25, hc.stor]
  refine ref_Validate hc hsh ?_
  simp
  by_cases h : valE c = 0
  · simp only [indP, h, if_true] at hK
    have hl := valE_small h
    simp [h]
    refine wLoop_up c.length (fun i fr L H' => (fr 0 = v ∧ fr 6 = .int .i64 i ∧ fr 5 = .int .i64 (sN (indG c) i)) ∧ H' = H) ⟨by simp [sN], rfl⟩ ?_
    rintro i hi fr L H' ⟨⟨f0, f6, f5⟩, e0⟩
    have e0 := e0.symm
    subst e0
    simp [f0, f6, f5, hc.len]
    refine cond_dec (fun ht => ?_) fun hfl => ?_
    · have ht : i < c.length := by omega
      have b1 := ind_le hl hi
      simp [f0, f6, f5]
      refine wLoop_up i (fun k fr L' H' => (fr 0 = v ∧ fr 6 = .int .i64 i ∧ fr 5 = .int .i64 (sN (indG c) i + nN (inB c i) k) ∧ fr 7 = .int .i64 k) ∧ H' = H) ⟨by simp [f0, f6, f5, nN], rfl⟩ ?_
      clear f0 f6 f5
      rintro k hk fr L' H' ⟨⟨f0, f6, f5, f7⟩, e0⟩
      have e0 := e0.symm
      subst e0
      simp [f0, f6, f5, f7]
      refine cond_dec (fun ht2 => ?_) fun hfl => ?_
      · have ht2 : k < i := by omega
        have hk : k < c.length := by omega
        have b2 := @nN_le (inB c i) k
        simp (disch := omega) [f0, f6, f5, f7, hc.at ht, hc.at hk, en_load hc]
        refine ref_seen (e := c.getD i default) (f := c.getD k default) (val_pl h hk) ?_
        cases h1 : seesB (c.getD i default) (c.getD k default)
        · simp (disch := omega) [f0, f6, f5, f7, hc.at ht, hc.at hk, en_load hc]
          refine ref_seen (e := c.getD k default) (f := c.getD i default) (val_pl h ht) ?_
          cases h2 : seesB (c.getD k default) (c.getD i default)
          · have hb : inB c i k = true := by simp [inB, h1, h2]
            simp (disch := omega) [f0, f6, f5, f7, wrap_i64, nN, hb]
            omega
          · have hb : inB c i k = false := by simp [inB, h1, h2]
            simp (disch := omega) [f0, f6, f5, f7, wrap_i64, nN, hb]
            omega
        · have hb : inB c i k = false := by simp [inB, h1]
          simp (disch := omega) [f0, f6, f5, f7, wrap_i64, nN, hb]
          omega
      have : k = i := by omega
      subst this
      simp (disch := omega) [f0, f6, f5, wrap_i64, sN, indG]
      omega
    have : i = c.length := by omega
    subst this
    simp [f5]
    exact hK
  · simp only [indP, eq_false h, if_false] at hK
    simp [eq_false h]
    exact hK
theorem card_Independent (hc : LstV enC H v c) (hsh : shortC c) (hK : ∀ H', HX H H' → K (.tup [.int .i64 (indP c), .int .i64 (valE c)]) H') : VCall tbl lim 24 [v] H K := by
  refine VCall_fn tbl_at24 rfl ?_
  simp [vf24, hc.stor]
  refine card_Validate hc hsh fun H1 x1 => ?_
  have hK := hK H1 x1
  have hc := hc.mono x1
  clear x1
  simp
  by_cases h : valE c = 0
  · simp only [indP, h, if_true] at hK
    have hl := valE_small h
    simp [h, hc.len]
    refine wLoop_up c.length (fun i fr L H' => (fr 0 = v ∧ fr 15 = v ∧ fr 16 = .int .i64 c.length ∧ fr 17 = .int .i64 i ∧ fr 5 = .int .i64 (sN (indG c) i)) ∧ H' = H1) ⟨by simp [sN, hc.len], rfl⟩ ?_
    rintro i hi fr L H' ⟨⟨f0, f15, f16, f17, f5⟩, e0⟩
    have e0 := e0.symm
    subst e0
    simp [f0, f15, f16, f17, f5]
    refine cond_dec (fun ht => ?_) fun hfl => ?_
    · have ht : i < c.length := by omega
      have b1 := ind_le hl hi
      have hbd := hc.subW (a := 0) (b := i) ⟨by omega, by omega⟩ (by omega) (vbounds_hi (k := .i64) (by omega))
      have hsb := hc.sub (a := 0) (b := i) ⟨by omega, by omega⟩
      have esb : (c.drop 0).take (i - 0) = c.take i := by simp
      have elen : (c.take i).length = i := by simp; omega
      rw [esb] at hsb
      simp (disch := omega) [f0, f15, f16, f17, f5, hc.at ht, en_load hc, lastO, lastS, hbd, hsb.len, elen]
      generalize hg : c.getD i default = g
      generalize hL1 : L ++ [[.int .i64 g.p, .int .i64 g.s, .int .i64 g.a, .int .i64 g.b, .int .i64 g.c, .str g.t]] = L1
      have l1 : L1[L.length]? = some [.int .i64 g.p, .int .i64 g.s, .int .i64 g.a, .int .i64 g.b, .int .i64 g.c, .str g.t] := by rw [← hL1]; exact lastO
      clear hL1
      refine wLoop_up i (fun k fr L' H' => (fr 0 = v ∧ fr 15 = v ∧ fr 16 = .int .i64 c.length ∧ fr 17 = .int .i64 i ∧ fr 5 = .int .i64 (sN (indG c) i + nN (inB c i) k) ∧ fr 24 = subV v 0 i ∧ fr 25 = .int .i64 i ∧ fr 26 = .int .i64 k ∧ fr 7 = .lp L.length 0) ∧ L'[L.length]? = some [.int .i64 g.p, .int .i64 g.s, .int .i64 g.a, .int .i64 g.b, .int .i64 g.c, .str g.t] ∧ H' = H1) ⟨by simp [f0, f15, f16, f17, f5, nN, hsb.len, elen], l1, rfl⟩ ?_
      clear f0 f15 f16 f17 f5 l1
      rintro k hk fr L' H' ⟨⟨f0, f15, f16, f17, f5, f24, f25, f26, f7⟩, l1, e0⟩
      have e0 := e0.symm
      subst e0
      simp [f0, f15, f16, f17, f5, f24, f25, f26, f7]
      refine cond_dec (fun ht2 => ?_) fun hfl => ?_
      · have ht2 : k < i := by omega
        have hk : k < c.length := by omega
        have hk2 : k < (c.take i).length := by omega
        have b2 := @nN_le (inB c i) k
        have eg : (c.take i).getD k default = c.getD k default := getD_take ht2
        have ld : vload (some 6) L' H1 (ept 6 (subV v 0 i) k) = _ := en_load hsb hk2
        rw [eg] at ld
        have kl := keepL l1
        simp (disch := omega) [f0, f15, f16, f17, f5, f24, f25, f26, f7, hsb.at hk2, ld, lastO, lastS, kl]
        refine card_hasSeen (e := g) (f := c.getD k default) (val_pl h hk) ?_
        cases h1 : seesB g (c.getD k default)
        · simp (disch := omega) [f0, f15, f16, f17, f5, f24, f25, f26, f7, lastO, lastS, kl]
          refine card_hasSeen (e := c.getD k default) (f := g) (by rw [← hg]; exact val_pl h ht) ?_
          cases h2 : seesB (c.getD k default) g
          · have hb : inB c i k = true := by simp [inB, hg, h1, h2]
            simp (disch := omega) [f0, f15, f16, f17, f5, f24, f25, f26, f7, wrap_i64, nN, hb, kl]
            omega
          · have hb : inB c i k = false := by simp [inB, hg, h1, h2]
            simp (disch := omega) [f0, f15, f16, f17, f5, f24, f25, f26, f7, wrap_i64, nN, hb, kl]
            omega
        · have hb : inB c i k = false := by simp [inB, hg, h1]
          simp (disch := omega) [f0, f15, f16, f17, f5, f24, f25, f26, f7, wrap_i64, nN, hb, kl]
          omega
      have : k = i := by omega
      subst this
      simp (disch := omega) [f0, f15, f16, f17, f5, wrap_i64, sN, indG]
      omega
    have : i = c.length := by omega
    subst this
    simp [f5]
    exact hK
  · simp only [indP, eq_false h, if_false] at hK
    simp [eq_false h]
    exact hK
theorem law_CardSees (hv : EnsV H v c ∧ c.length ≤ maxLen) (hlim : lim ≤ H.length) (hx : I64 x) (hy : I64 y) (hK : ∀ H', K (.bool true) H') : VCall tbl lim 5 [v, .int .i64 x, .int .i64 y] H K := by
  have hc := hv.1.1
  refine VCall_fn tbl_at5 rfl ?_
  simp [vf5, hc.stor]
  refine law_Long hc ?_
  cases hl : longC c
  · have hsh := long_short hl
    simp [hc.stor]
    refine card_HasSeen hc hsh fun H1 x1 => ?_
    have hc1 := hc.mono x1
    have l1 := x1.len
    simp [hc.stor]
    refine ref_HasSeen hc1 hsh ?_
    simp [hc.stor]
    refine card_Independent hc1 hsh fun H2 x2 => ?_
    have hc2 := hc1.mono x2
    have l2 := x2.len
    simp [hc.stor]
    refine ref_Independent hc2 hsh ?_
    simp
    refine law_known (by omega) fun H3 _ => ?_
    simp
    exact hK _
  · simp
    refine law_known hlim fun H' _ => ?_
    simp
    exact hK _
end
end Go.Proofs.Ytlkoedoannjojaa.Vm
