/- Package card over the machine: the document's Merge, Meet, Relation; CardMerges. -/
import Derived.Test.YtlkoedoannjojaaMeC
namespace Go.Proofs.Ytlkoedoannjojaa.Vm
open Go
set_option maxRecDepth 100000
set_option linter.unusedSimpArgs false
set_option linter.unusedVariables false
attribute [-simp] List.getD_eq_getElem?_getD
/-- whether two entries do not contradict each other -/
def pB (a b : List En) (i k : Nat) : Bool := !(decide ((a.getD i default).p = (b.getD k default).p) && decide ((a.getD i default).s = (b.getD k default).s) && !enEq (a.getD i default) (b.getD k default))
theorem okM_eq {a b : List En} (hb : valE b = 0) {i : Nat} : okM a b i = allN (pB a b i) b.length := by
  unfold okM
  cases h : hasN b (a.getD i default)
  · have : allN (pB a b i) b.length = true := allN_of fun k hk => by
      by_cases e : (a.getD i default).p = (b.getD k default).p ∧ (a.getD i default).s = (b.getD k default).s
      · have := hasN_yes (x := a.getD i default) hk e.1.symm e.2.symm
        rw [h] at this; cases this
      · by_cases e1 : (a.getD i default).p = (b.getD k default).p
        · have e2 : ¬ (a.getD i default).s = (b.getD k default).s := fun e2 => e ⟨e1, e2⟩
          simp [pB, e2]
        · simp [pB, e1]
    rw [this]; rfl
  · obtain ⟨y, hy, e1, e2⟩ := hasN_iff.1 h
    obtain ⟨j, hj, rfl⟩ := mem_getD hy
    rw [hasQ_at hb hj e1 e2]
    cases h2 : enEq (a.getD i default) (b.getD j default)
    · have : pB a b i j = false := by simp [pB, e1, e2, h2]
      rw [allN_not hj this]; rfl
    · have : allN (pB a b i) b.length = true := allN_of fun k hk => by
        by_cases e : (a.getD i default).p = (b.getD k default).p ∧ (a.getD i default).s = (b.getD k default).s
        · have := val_uniq hb hk hj (by rw [e1, e.1]) (by rw [e2, e.2])
          subst this
          simp [pB, h2]
        · by_cases e1 : (a.getD i default).p = (b.getD k default).p
          · have e2 : ¬ (a.getD i default).s = (b.getD k default).s := fun e2 => e ⟨e1, e2⟩
            simp [pB, e2]
          · simp [pB, e1]
      rw [this]; rfl
section
variable {lim : Nat} {H : Hp} {K : V → Hp → Prop} {v w : V} {a b : List En} {e : En} {x y z : Int}
theorem ref_has (hw : LstV enC H w b) (hl : b.length ≤ 1000) (hK : K (.bool (hasQ b e)) H) : VCall tbl lim 74 [w, .agg e.cells] H K := by
  refine VCall_fn tbl_at74 rfl ?_
  simp [vf74, En.cells]
  refine wLoop_up b.length (fun i fr L H' => (fr 0 = w ∧ fr 3 = .lp 0 0 ∧ fr 5 = .int .i64 i) ∧ L[0]? = some [.int .i64 e.p, .int .i64 e.s, .int .i64 e.a, .int .i64 e.b, .int .i64 e.c, .str e.t] ∧ H' = H ∧ allN (eqB b e) i = true) ⟨by simp, rfl, rfl, rfl⟩ ?_
  rintro i hi fr L H' ⟨⟨f0, f3, f5⟩, l0, e0, hz⟩
  have e0 := e0.symm
  subst e0
  simp [f0, f3, f5, hw.len]
  refine cond_dec (fun ht => ?_) fun hfl => ?_
  · have ht : i < b.length := by omega
    cases h : enEq e (b.getD i default)
    · have h' : enEq ⟨(b.getD i default).p, (b.getD i default).s, (b.getD i default).a, (b.getD i default).b, (b.getD i default).c, (b.getD i default).t⟩ ⟨e.p, e.s, e.a, e.b, e.c, e.t⟩ = false := by rw [enEq_symm]; exact h
      have ho : eqB b e i = true := by simp [eqB, h]
      simp (disch := omega) [f0, f3, f5, l0, hw.at ht, en_load hw, veqA_6, h', wrap_i64, allN, hz, ho]
      exact ht
    · have h' : enEq ⟨(b.getD i default).p, (b.getD i default).s, (b.getD i default).a, (b.getD i default).b, (b.getD i default).c, (b.getD i default).t⟩ ⟨e.p, e.s, e.a, e.b, e.c, e.t⟩ = true := by rw [enEq_symm]; exact h
      have ho : eqB b e i = false := by simp [eqB, h]
      have e1 : hasQ b e = true := by simp [hasQ, allN_not ht ho]
      rw [e1] at hK
      simp (disch := omega) [f0, f3, f5, l0, hw.at ht, en_load hw, veqA_6, h']
      exact hK
  have : i = b.length := by omega
  subst this
  have e1 : hasQ b e = false := by simp [hasQ, hz]
  rw [e1] at hK
  simp
  exact hK
theorem ref_without {t : Bool} (hc : LstV enC H v a) (hw : LstV enC H w b) (hla : a.length ≤ 1000) (hl : b.length ≤ 1000) (hlim : lim ≤ H.length)
    (hK : ∀ H' u, HX H H' → OwnT H.length enC H' u (filE (fun i => hasQ b (a.getD i default) == t) a a.length) → K u H') : VCall tbl lim 61 [v, w, .bool t] H K := by
  refine VCall_fn tbl_at61 rfl ?_
  simp [vf61]
  refine wLoop_up a.length (fun i fr L H' => (fr 0 = v ∧ fr 1 = w ∧ fr 2 = .bool t ∧ fr 8 = .int .i64 i) ∧ (∃ u, fr 7 = u ∧ OwnT H.length enC H' u (filE (fun i => hasQ b (a.getD i default) == t) a i)) ∧ HX H H') ⟨by simp, ⟨.snil, by simp, .nil⟩, HX.refl⟩ ?_
  rintro i hi fr L H' ⟨⟨f0, f1, f2, f8⟩, ⟨u, f7, hu⟩, hx⟩
  simp [f0, f1, f2, f8, hc.len]
  refine cond_dec (fun ht => ?_) fun hfl => ?_
  · have ht : i < a.length := by omega
    have hc' := hc.mono hx
    have hw' := hw.mono hx
    have hxl := hx.len
    have hfl : (filE (fun i => hasQ b (a.getD i default) == t) a i).length ≤ i := filE_len
    obtain ⟨v', H3, b1, b2, b3, b4, b5, b6⟩ := hu.append (lim := lim) (bytes := 56) (x := a.getD i default) (cs := [.int .i64 (a.getD i default).p, .int .i64 (a.getD i default).s, .int .i64 (a.getD i default).a, .int .i64 (a.getD i default).b, .int .i64 (a.getD i default).c, .str (a.getD i default).t]) rfl ⟨hlim, hxl⟩ (by omega) (by omega)
    simp (disch := omega) [f0, f1, f2, f8, hc'.at ht, en_load hc', hw.stor]
    refine ref_has (e := a.getD i default) hw' hl ?_
    cases h : hasQ b (a.getD i default) == t
    · simp (disch := omega) [f0, f1, f2, f8, f7, h, wrap_i64, filE]
      exact ⟨ht, hu, hx⟩
    · simp (disch := omega) [f0, f1, f2, f8, f7, h, hc'.at ht, en_load hc', vbslice_some, b1, wrap_i64, filE]
      exact ⟨ht, b2, b3 _ hx (Nat.le_refl _)⟩
  have : i = a.length := by omega
  subst this
  simp [f7, hu.lst.stor]
  exact hK _ _ hx hu
theorem ref_both (hc : LstV enC H v a) (hw : LstV enC H w b) (hsa : shortC a) (hsb : shortC b) (hK : K (.int .i64 (cmpE a b)) H) : VCall tbl lim 60 [v, w] H K := by
  refine VCall_fn tbl_at60 rfl ?_
  simp [vf60, hc.stor, hw.stor]
  refine ref_Validate hc hsa ?_
  by_cases hva : valE a = 0
  case neg =>
    have e : cmpE a b = valE a := by simp [cmpE, hva]
    rw [e] at hK
    simp [eq_false hva]
    exact hK
  simp [hva, hw.stor]
  refine ref_Validate hw hsb ?_
  by_cases hvb : valE b = 0
  case neg =>
    have e : cmpE a b = valE b := by simp [cmpE, hva, hvb]
    rw [e] at hK
    simp [eq_false hvb]
    exact hK
  have hl := valE_small hva
  have hlb := valE_small hvb
  simp [hvb]
  refine wLoop_up a.length (fun i fr L H' => (fr 0 = v ∧ fr 1 = w ∧ fr 6 = .int .i64 i) ∧ H' = H ∧ allN (okM a b) i = true) ⟨by simp, rfl, rfl⟩ ?_
  rintro i hi fr L H' ⟨⟨f0, f1, f6⟩, e0, hz⟩
  have e0 := e0.symm
  subst e0
  simp [f0, f1, f6, hc.len]
  refine cond_dec (fun ht => ?_) fun hfl => ?_
  · have ht : i < a.length := by omega
    simp [f0, f1, f6]
    refine wLoop_up b.length (fun k fr L H' => (fr 0 = v ∧ fr 1 = w ∧ fr 6 = .int .i64 i ∧ fr 7 = .int .i64 k) ∧ H' = H ∧ allN (pB a b i) k = true) ⟨by simp [f0, f1, f6], rfl, rfl⟩ ?_
    clear f0 f1 f6
    rintro k hk fr L H' ⟨⟨f0, f1, f6, f7⟩, e0, hz2⟩
    have e0 := e0.symm
    subst e0
    simp [f0, f1, f6, f7, hw.len]
    refine cond_dec (fun ht2 => ?_) fun hfl => ?_
    · have ht2 : k < b.length := by omega
      by_cases h1 : (a.getD i default).p = (b.getD k default).p
      · by_cases h2 : (a.getD i default).s = (b.getD k default).s
        · cases h : enEq (a.getD i default) (b.getD k default)
          · have h' : enEq ⟨(a.getD i default).p, (a.getD i default).s, (a.getD i default).a, (a.getD i default).b, (a.getD i default).c, (a.getD i default).t⟩ ⟨(b.getD k default).p, (b.getD k default).s, (b.getD k default).a, (b.getD k default).b, (b.getD k default).c, (b.getD k default).t⟩ = false := h
            have hp : pB a b i k = false := by simp [pB, eq_true h1, eq_true h2, h]
            have ho : okM a b i = false := by rw [okM_eq hvb]; exact allN_not ht2 hp
            have e : cmpE a b = 12 := by simp [cmpE, hva, hvb, allN_not ht ho]
            rw [e] at hK
            simp (disch := omega) [f0, f1, f6, f7, hc.at ht, hw.at ht2, hc.faddr ht, hw.faddr ht2, en_get hc ht, en_get hw ht2, en_load hc, en_load hw, eq_true h1, eq_true h2, veqA_6, h']
            exact hK
          · have h' : enEq ⟨(a.getD i default).p, (a.getD i default).s, (a.getD i default).a, (a.getD i default).b, (a.getD i default).c, (a.getD i default).t⟩ ⟨(b.getD k default).p, (b.getD k default).s, (b.getD k default).a, (b.getD k default).b, (b.getD k default).c, (b.getD k default).t⟩ = true := h
            have hp : pB a b i k = true := by simp [pB, h]
            simp (disch := omega) [f0, f1, f6, f7, hc.at ht, hw.at ht2, hc.faddr ht, hw.faddr ht2, en_get hc ht, en_get hw ht2, en_load hc, en_load hw, eq_true h1, eq_true h2, veqA_6, h', wrap_i64, allN, hz2, hp]
            exact ht2
        · have hp : pB a b i k = true := by simp [pB, h2]
          simp (disch := omega) [f0, f1, f6, f7, hc.at ht, hw.at ht2, hc.faddr ht, hw.faddr ht2, en_get hc ht, en_get hw ht2, eq_true h1, eq_false h2, wrap_i64, allN, hz2, hp]
          exact ht2
      · have hp : pB a b i k = true := by simp [pB, h1]
        simp (disch := omega) [f0, f1, f6, f7, hc.at ht, hw.at ht2, hc.faddr ht, hw.faddr ht2, en_get hc ht, en_get hw ht2, eq_false h1, wrap_i64, allN, hz2, hp]
        exact ht2
    have : k = b.length := by omega
    subst this
    have ho : okM a b i = true := by rw [okM_eq hvb]; exact hz2
    simp (disch := omega) [f0, f1, f6, wrap_i64, allN, hz, ho]
    exact ht
  have : i = a.length := by omega
  subst this
  have e : cmpE a b = 0 := by simp [cmpE, hva, hvb, hz]
  rw [e] at hK
  simp
  exact hK
end
theorem hasQ_N {b : List En} {x : En} (h : hasQ b x = true) : hasN b x = true := by
  cases h2 : hasN b x
  · have : allN (eqB b x) b.length = true := allN_of fun j hj => by
      cases h3 : enEq x (b.getD j default)
      · simp [eqB, h3]
      · have n := enEq_num h3
        have := hasN_yes (x := x) hj n.1.symm n.2.symm
        rw [h2] at this; cases this
    simp [hasQ, this] at h
  · rfl
theorem q_one {a b : List En} (h : cmpE a b = 0) {i : Nat} (hi : i < a.length) : hasQ b (a.getD i default) = hasN b (a.getD i default) := by
  have ho := (cmp_ok h).2.2 i hi
  cases hN : hasN b (a.getD i default)
  · cases hQ : hasQ b (a.getD i default)
    · rfl
    · rw [hasQ_N hQ] at hN; cases hN
  · simp only [okM, hN, Bool.not_true, Bool.false_or] at ho
    exact ho
theorem q_two {a b : List En} (h : cmpE a b = 0) {j : Nat} (hj : j < b.length) : hasQ a (b.getD j default) = hasN a (b.getD j default) := by
  obtain ⟨ha, hb, hok⟩ := cmp_ok h
  cases hN : hasN a (b.getD j default)
  · cases hQ : hasQ a (b.getD j default)
    · rfl
    · rw [hasQ_N hQ] at hN; cases hN
  · obtain ⟨y, hy, e1, e2⟩ := hasN_iff.1 hN
    obtain ⟨i, hi, rfl⟩ := mem_getD hy
    have q1 := q_one h hi
    rw [hasN_yes (x := a.getD i default) hj e1.symm e2.symm, hasQ_at hb hj e1.symm e2.symm] at q1
    rw [hasQ_at ha hi e1 e2, enEq_symm]; exact q1
theorem w_both {a b : List En} (h : cmpE a b = 0) : filE (fun i => hasQ b (a.getD i default) == true) a a.length = bothL a b a.length :=
  filE_congr fun i hi => by rw [q_one h hi]; cases hasN b (a.getD i default) <;> rfl
theorem w_first {a b : List En} (h : cmpE a b = 0) : filE (fun i => hasQ b (a.getD i default) == false) a a.length = firstL a b a.length :=
  filE_congr fun i hi => by rw [q_one h hi]; cases hasN b (a.getD i default) <;> rfl
theorem w_second {a b : List En} (h : cmpE a b = 0) : filE (fun i => hasQ a (b.getD i default) == false) b b.length = firstL b a b.length :=
  filE_congr fun i hi => by rw [q_two h hi]; cases hasN a (b.getD i default) <;> rfl
def merL (a b : List En) : List En := if merE a b = 0 then mgL a b 3 else []
theorem mer_cmp {a b : List En} (h : merE a b = 0) : cmpE a b = 0 := by
  unfold merE at h; split at h
  · rename_i h1; exact absurd h h1
  · rename_i h1; simpa using h1
theorem mgL_length {a b : List En} (h : cmpE a b = 0) : (mgL a b 3).length = (bothL a b a.length).length + (firstL a b a.length).length + (firstL b a b.length).length := by
  obtain ⟨ha, hb, _⟩ := cmp_ok h
  rw [((mgL_perm ha hb).trans mer_perm.symm).length_eq]; simp; omega
section
variable {lim : Nat} {H : Hp} {K : V → Hp → Prop} {v w : V} {a b : List En} {e : En} {x y z : Int}
theorem card_MergeG (hc : LstV enC H v a) (hw : LstV enC H w b) (hsa : shortC a) (hsb : shortC b) (hlim : lim ≤ H.length)
    (hK : ∀ H' u, HX H H' → OwnT H.length enC H' u (merL a b) → K (.tup [u, .int .i64 (merE a b)]) H') : VCall tbl lim 29 [v, w] H K := by
  refine card_Merge hc hw hsa hsb hlim (fun h H' hx => ?_) fun h H' u l hx o hp hs => ?_
  · have e : merL a b = [] := if_neg h
    exact hK H' .snil hx (by rw [e]; exact .nil)
  · have e : merL a b = mgL a b 3 := if_pos h
    obtain ⟨ha, hb, _⟩ := cmp_ok (mer_cmp h)
    rw [mer_uniq ha hb hp hs] at o
    rw [e, h] at hK
    exact hK H' u hx o
theorem ref_Meet (hc : LstV enC H v a) (hw : LstV enC H w b) (hsa : shortC a) (hsb : shortC b) (hlim : lim ≤ H.length)
    (hK : ∀ H' u, HX H H' → OwnT H.length enC H' u (meetL a b) → K (.tup [u, .int .i64 (cmpE a b)]) H') : VCall tbl lim 32 [v, w] H K := by
  refine VCall_fn tbl_at32 rfl ?_
  simp [vf32, hc.stor, hw.stor]
  refine ref_both hc hw hsa hsb ?_
  by_cases h : cmpE a b = 0
  · have e : meetL a b = bothL a b a.length := if_pos h
    rw [h, e] at hK
    simp [h, hc.stor, hw.stor]
    refine ref_without hc hw (by have := hsa.1; omega) (by have := hsb.1; omega) hlim fun H' u hx o => ?_
    rw [w_both h] at o
    simp [o.lst.stor]
    exact hK H' u hx o
  · have e : meetL a b = [] := if_neg h
    simp [eq_false h]
    exact hK H .snil HX.refl (by rw [e]; exact .nil)
theorem ref_Relation (hc : LstV enC H v a) (hw : LstV enC H w b) (hsa : shortC a) (hsb : shortC b) (hlim : lim ≤ H.length)
    (hK : ∀ H', HX H H' → K (.tup [.int .i64 (relP a b), .int .i64 (cmpE a b)]) H') : VCall tbl lim 34 [v, w] H K := by
  refine VCall_fn tbl_at34 rfl ?_
  simp [vf34, hc.stor, hw.stor]
  refine ref_both hc hw hsa hsb ?_
  by_cases h : cmpE a b = 0
  · simp [h, hc.stor, hw.stor]
    refine ref_without hc hw (by have := hsa.1; omega) (by have := hsb.1; omega) hlim fun H1 u1 x1 o1 => ?_
    replace x1 : HX H H1 := x1
    have l1 := x1.len
    rw [w_first h] at o1
    simp [o1.lst.len, hc.stor, hw.stor]
    refine ref_without (hw.mono x1) (hc.mono x1) (by have := hsb.1; omega) (by have := hsa.1; omega) (by omega) fun H2 u2 x2 o2 => ?_
    replace x2 : HX H1 H2 := x2
    rw [w_second h] at o2
    have hK := hK H2 (x1.trans x2)
    rw [h] at hK
    unfold relP at hK
    rw [if_neg (by rw [h]; simp)] at hK
    by_cases h1 : 0 < (firstL a b a.length).length
    · by_cases h2 : 0 < (firstL b a b.length).length
      · rw [if_pos ⟨h1, h2⟩] at hK
        simp [o2.lst.len, h1, h2]
        exact hK
      · rw [if_neg (by omega), if_pos h1] at hK
        simp [o2.lst.len, h1, h2]
        exact hK
    · by_cases h2 : 0 < (firstL b a b.length).length
      · rw [if_neg (by omega), if_neg h1, if_pos h2] at hK
        simp [o2.lst.len, h1, h2]
        exact hK
      · rw [if_neg (by omega), if_neg h1, if_neg h2] at hK
        simp [o2.lst.len, h1, h2]
        exact hK
  · have e : relP a b = 0 := if_pos h
    simp [eq_false h]
    have := hK H HX.refl
    rwa [e] at this
theorem ref_Merge (hc : LstV enC H v a) (hw : LstV enC H w b) (hsa : shortC a) (hsb : shortC b) (hlim : lim ≤ H.length)
    (hK : ∀ H' u, HX H H' → OwnT H.length enC H' u (merL a b) → K (.tup [u, .int .i64 (merE a b)]) H') : VCall tbl lim 30 [v, w] H K := by
  refine VCall_fn tbl_at30 rfl ?_
  simp [vf30, hc.stor, hw.stor]
  refine ref_both hc hw hsa hsb ?_
  by_cases h : cmpE a b = 0
  case neg =>
    have e1 : merE a b = cmpE a b := if_pos h
    have e : merL a b = [] := if_neg (by rw [e1]; exact h)
    simp [eq_false h]
    have := hK H .snil HX.refl (by rw [e]; exact .nil)
    rwa [e1] at this
  simp [h]
  have la := hsa.1
  have lb := hsb.1
  have hS : (firstL b a b.length).length ≤ b.length := filE_len
  have hml : ∀ n, (mgL a b n).length ≤ n * 200 := fun n => by
    induction n with
    | zero => simp [mgL]
    | succ n ih =>
      have h1 : (ofP a n a.length).length ≤ a.length := filE_len
      have h2 : (ofP (firstL b a b.length) n (firstL b a b.length).length).length ≤ (firstL b a b.length).length := filE_len
      simp only [mgL, List.length_append]; omega
  refine wLoop_up 3 (fun i fr L H' => (fr 0 = v ∧ fr 1 = w ∧ fr 8 = .int .i64 i) ∧ (∃ u, fr 7 = u ∧ OwnT H.length enC H' u (mgL a b i)) ∧ HX H H') ⟨by simp, ⟨.snil, by simp, .nil⟩, HX.refl⟩ ?_
  rintro i hi fr L H1 ⟨⟨f0, f1, f8⟩, ⟨u, f7, hu⟩, hx⟩
  simp [f0, f1, f8]
  refine cond_dec (fun ht3 => ?_) fun hfl => ?_
  · have hc1 := hc.mono hx
    have l1 := hx.len
    have ai := hml i
    have h1 : (ofP a i a.length).length ≤ a.length := filE_len
    have h2 : (ofP (firstL b a b.length) i (firstL b a b.length).length).length ≤ (firstL b a b.length).length := filE_len
    simp (disch := omega) [f0, f1, f8, hc.stor]
    refine ref_of hc1 (by omega) (by omega) fun H2 w2 x2 o2 => ?_
    replace x2 : HX H1 H2 := x2
    have l2 := x2.len
    obtain ⟨v3, H3, b1, b2, b3, b4⟩ := hu.appendA (lim := lim) (bytes := 56) o2.lst x2 ⟨hlim, l1⟩ (by omega) (by omega)
    have x3 := b3 H hx (Nat.le_refl _)
    have l3 := x3.len
    simp (disch := omega) [f0, f1, f8, f7, b1, hc.stor, hw.stor, b2.lst.stor]
    refine ref_without (hw.mono x3) (hc.mono x3) (by omega) (by omega) (by omega) fun H4 w4 x4 o4 => ?_
    replace x4 : HX H3 H4 := x4
    have l4 := x4.len
    rw [w_second h] at o4
    simp [f8, o4.lst.stor]
    refine ref_of o4.lst (by omega) (by omega) fun H5 w5 x5 o5 => ?_
    replace x5 : HX H4 H5 := x5
    obtain ⟨v6, H6, d1, d2, d3, d4⟩ := b2.appendA (lim := lim) (bytes := 56) o5.lst (x4.trans x5) ⟨hlim, l3⟩ (by omega) (by simp; omega)
    have hst : mgL a b (i + 1) = (mgL a b i ++ ofP a i a.length) ++ ofP (firstL b a b.length) i (firstL b a b.length).length := by
      simp only [mgL, List.append_assoc]
    simp (disch := omega) [f0, f1, f8, f7, d1, wrap_i64]
    exact ⟨by omega, by rw [hst]; exact d2, d3 _ x3 (Nat.le_refl _)⟩
  have : i = 3 := by omega
  subst this
  have hlen := mgL_length h
  simp [f7, hu.lst.len]
  by_cases h60 : 60 < (mgL a b 3).length
  · have e1 : merE a b = 4 := by simp only [merE, h]; rw [if_neg (by simp), if_pos (by omega)]
    have e : merL a b = [] := if_neg (by rw [e1]; decide)
    simp [h60, show (60 : Int) < (mgL a b 3).length by omega]
    have := hK H1 .snil hx (by rw [e]; exact .nil)
    rwa [e1] at this
  · have e1 : merE a b = 0 := by simp only [merE, h]; rw [if_neg (by simp), if_neg (by omega)]
    have e : merL a b = mgL a b 3 := if_pos e1
    rw [e1, e] at hK
    simp [h60, show ¬ (60 : Int) < (mgL a b 3).length by omega, f7, hu.lst.stor]
    exact hK H1 u hx hu
end
theorem OwnT.above {α : Type} {k n : Nat} {c : Cod α k} {H : Hp} {v : V} {l : List α} (h : OwnT n c H v l) : ∀ b o m z, v = .sl b o m z → n ≤ b := by
  rintro b o m z rfl
  cases h with
  | row h1 h3 => exact h1
theorem OwnT.setOth {α : Type} {k n : Nat} {c : Cod α k} {H : Hp} {v : V} {l : List α} (h : OwnT n c H v l) {cs : List V} {b' : Nat} (hne : ∀ o z y, v ≠ .sl b' o z y) : (setH H v cs)[b']? = H[b']? := by
  cases h with
  | nil => rfl
  | row h1 h3 =>
    rename_i b
    show (H.set b _)[b']? = _
    rw [List.getElem?_set_ne (fun e => hne _ _ _ (by rw [e]))]
section
variable {lim : Nat} {H : Hp} {K : V → Hp → Prop} {v w : V} {a b l : List En} {e : En} {x y z : Int}
theorem law_spoil2 {m : Nat} (ho : OwnT m enC H w l) (hlim : lim ≤ m) (hl : l.length ≤ 1000) (hK : ∀ H', (∀ H0, HX H0 H → H0.length ≤ m → HX H0 H') → H'.length = H.length → (∀ b', (∀ o z y, w ≠ .sl b' o z y) → H'[b']? = H[b']?) → K (.tup []) H') : VCall tbl lim 21 [w] H K := by
  refine VCall_fn tbl_at21 rfl ?_
  simp [vf21]
  refine wLoop_up l.length (fun i fr L H' => (fr 0 = w ∧ fr 2 = .int .i64 i) ∧ (∃ l', l'.length = l.length ∧ OwnT m enC H' w l') ∧ (∀ H0, HX H0 H → H0.length ≤ m → HX H0 H') ∧ H'.length = H.length ∧ (∀ b', (∀ o z y, w ≠ .sl b' o z y) → H'[b']? = H[b']?)) ⟨by simp, ⟨l, rfl, ho⟩, fun H0 h _ => h, rfl, fun _ _ => rfl⟩ ?_
  rintro i hi fr L H' ⟨⟨f0, f2⟩, ⟨l', hl', ho'⟩, hx, hlen, hoth⟩
  simp [f0, f2, ho'.lst.len, hl']
  refine cond_dec (fun ht => ?_) fun hfl => ?_
  · have ht : i < l'.length := by omega
    have st := fun L => ho'.store (lim := lim) (i := i) (j := 1) (x := .int .i64 (-1)) (y := ⟨(l'.getD i default).p, -1, (l'.getD i default).a, (l'.getD i default).b, (l'.getD i default).c, (l'.getD i default).t⟩) (L := L) (sz := 1) hlim ht rfl rfl (by omega) (by
      show En.cells _ = splice (l'.getD i default).cells 1 [.int .i64 (-1)]
      simp [En.cells, splice])
    have o2 := ho'.put (l' := l'.set i ⟨(l'.getD i default).p, -1, (l'.getD i default).a, (l'.getD i default).b, (l'.getD i default).c, (l'.getD i default).t⟩) (by simp)
    simp (disch := omega) [f0, f2, ho'.lst.at ht, ho'.lst.faddr ht, st, wrap_i64, -vstore]
    exact ⟨by omega, ⟨_, by simp [hl'], o2⟩, fun H0 h1 h2 => ho'.setX (hx H0 h1 h2) h2, by rw [ho'.setLen]; exact hlen, fun b' hb' => by rw [ho'.setOth hb']; exact hoth b' hb'⟩
  have : i = l.length := by omega
  subst this
  simp
  exact hK _ hx hlen hoth
theorem law_CardMerges (hv : EnsV H v a ∧ a.length ≤ maxLen) (hw : EnsV H w b ∧ b.length ≤ maxLen) (hlim : lim ≤ H.length) (hK : ∀ H', K (.bool true) H') : VCall tbl lim 7 [v, w] H K := by
  have hc := hv.1.1
  have hd := hw.1.1
  refine VCall_fn tbl_at7 rfl ?_
  simp [vf7, hc.stor]
  refine law_Long hc ?_
  cases hl : longC a
  case true =>
    simp
    refine law_known hlim fun H' _ => ?_
    simp
    exact hK _
  simp [hd.stor]
  refine law_Long hd ?_
  cases hl2 : longC b
  case true =>
    simp
    refine law_known hlim fun H' _ => ?_
    simp
    exact hK _
  have hsa := long_short hl
  have hsb := long_short hl2
  have la := hsa.1
  have lb := hsb.1
  simp [hc.stor]
  refine law_copied hc hlim (by omega) fun H1 u1 x1 o1 => ?_
  replace x1 : HX H H1 := x1
  have l1 := x1.len
  simp [hd.stor]
  refine law_copied (hd.mono x1) (by omega) (by omega) fun H2 u2 x2 o2 => ?_
  replace x2 : HX H1 H2 := x2
  have l2 := x2.len
  have c2 := o1.lst.mono x2
  have d2 := o2.lst
  simp [c2.stor, d2.stor]
  refine card_MergeG c2 d2 hsa hsb (by omega) fun H3 u3 x3 o3 => ?_
  replace x3 : HX H2 H3 := x3
  have l3 := x3.len
  have x03 := x1.trans (x2.trans x3)
  simp [hc.stor, hd.stor, o3.lst.stor, o3.lst.one]
  refine ref_Merge (hc.mono x03) (hd.mono x03) hsa hsb (by omega) fun H4 u4 x4 o4 => ?_
  replace x4 : HX H3 H4 := x4
  have l4 := x4.len
  have x24 := x3.trans x4
  simp [c2.stor, d2.stor, o3.lst.stor, o4.lst.stor, o4.lst.one]
  refine card_Meet (c2.mono x24) (d2.mono x24) hsa hsb (by omega) fun H5 u5 x5 o5 => ?_
  replace x5 : HX H4 H5 := x5
  have l5 := x5.len
  have x05 := x03.trans (x4.trans x5)
  simp [hc.stor, hd.stor, o5.lst.stor, o5.lst.one]
  refine ref_Meet (hc.mono x05) (hd.mono x05) hsa hsb (by omega) fun H6 u6 x6 o6 => ?_
  replace x6 : HX H5 H6 := x6
  have l6 := x6.len
  have x06 := x05.trans x6
  simp [hc.stor, hd.stor, o6.lst.stor, o6.lst.one]
  refine card_RelationG (hc.mono x06) (hd.mono x06) hsa hsb (by omega) fun H7 x7 => ?_
  replace x7 : HX H6 H7 := x7
  have l7 := x7.len
  have x07 := x06.trans x7
  simp [hc.stor, hd.stor]
  refine ref_Relation (hc.mono x07) (hd.mono x07) hsa hsb (by omega) fun H8 x8 => ?_
  replace x8 : HX H7 H8 := x8
  have l8 := x8.len
  have x38 := x4.trans (x5.trans (x6.trans (x7.trans x8)))
  have x48 := x5.trans (x6.trans (x7.trans x8))
  have x58 := x6.trans (x7.trans x8)
  have x68 := x7.trans x8
  have p3 := o3.mono x38
  have p5 := o5.mono x58
  have hmr : (merL a b).length ≤ 1000 := by
    unfold merL; split
    · rename_i h
      have := mgL_length (mer_cmp h)
      have e := h
      unfold merE at e
      rw [if_neg (by rw [mer_cmp h]; simp)] at e
      split at e
      · cases e
      · omega
    · simp
  have hmt : (meetL a b).length ≤ 1000 := by
    unfold meetL; split
    · have : (bothL a b a.length).length ≤ a.length := filE_len
      omega
    · simp
  simp [o3.lst.stor, o4.lst.stor, o5.lst.stor, o6.lst.stor]
  refine ref_Same p3.lst (o4.lst.mono x48) hmr ?_
  simp [o3.lst.stor, o4.lst.stor, o5.lst.stor, o6.lst.stor]
  refine ref_Same p5.lst (o6.lst.mono x68) hmt ?_
  simp [o3.lst.stor, o5.lst.stor]
  refine law_spoil2 p3 (by omega) hmr fun H9 y9 e9 z9 => ?_
  have p5' : OwnT H4.length enC H9 u5 (meetL a b) := p5.keepB fun q o m z e => z9 q fun o' z' y' e' => by
    have h1 := o3.below _ _ _ _ e'
    have h2 := o5.above _ _ _ _ e
    omega
  have y29 := y9 H2 (x3.trans x38) (Nat.le_refl _)
  simp [o5.lst.stor]
  refine law_spoil2 p5' (by omega) hmt fun H10 y10 e10 z10 => ?_
  have y210 := y10 H2 y29 (by omega)
  have l10 := y210.len
  simp [c2.stor, d2.stor, hc.stor, hd.stor]
  refine ref_Same (c2.mono y210) (hc.mono (x1.trans (x2.trans y210))) (by omega) ?_
  simp [c2.stor, d2.stor, hc.stor, hd.stor]
  refine ref_Same (d2.mono y210) (hd.mono (x1.trans (x2.trans y210))) (by omega) ?_
  simp
  refine law_known (by omega) fun H11 _ => ?_
  simp
  exact hK _
end
end Go.Proofs.Ytlkoedoannjojaa.Vm
