/- Package card over the machine: two cards compared. -/
import Derived.Test.YtlkoedoannjojaaAdC
namespace Go.Proofs.Ytlkoedoannjojaa.Vm
open Go
set_option maxRecDepth 100000
set_option linter.unusedSimpArgs false
set_option linter.unusedVariables false
attribute [-simp] List.getD_eq_getElem?_getD
/-- whether a list has an entry of that place and number -/
def numB (b : List En) (x : En) (j : Nat) : Bool := !(decide ((b.getD j default).p = x.p) && decide ((b.getD j default).s = x.s))
def hasN (b : List En) (x : En) : Bool := !allN (numB b x) b.length
/-- whether it has that very entry -/
def eqB (b : List En) (x : En) (j : Nat) : Bool := !enEq x (b.getD j default)
def hasQ (b : List En) (x : En) : Bool := !allN (eqB b x) b.length
def okM (a b : List En) (i : Nat) : Bool := !hasN b (a.getD i default) || hasQ b (a.getD i default)
def cmpE (a b : List En) : Int := if valE a ≠ 0 then valE a else if valE b ≠ 0 then valE b else if allN (okM a b) a.length = false then 12 else 0
def bothL (a b : List En) (n : Nat) : List En := filE (fun i => hasN b (a.getD i default)) a n
def firstL (a b : List En) (n : Nat) : List En := filE (fun i => !hasN b (a.getD i default)) a n
theorem hasN_yes {b : List En} {x : En} {j : Nat} (hj : j < b.length) (hp : (b.getD j default).p = x.p) (hs : (b.getD j default).s = x.s) : hasN b x = true := by
  have : numB b x j = false := by simp [numB, hp, hs]
  simp [hasN, allN_not hj this]
theorem hasN_no {b : List En} {x : En} (h : ∀ j, j < b.length → ¬ ((b.getD j default).p = x.p ∧ (b.getD j default).s = x.s)) : hasN b x = false := by
  have : allN (numB b x) b.length = true := allN_of fun j hj => by
    have := h j hj
    by_cases e : (b.getD j default).p = x.p
    · by_cases e2 : (b.getD j default).s = x.s
      · exact absurd ⟨e, e2⟩ this
      · simp [numB, e2]
    · simp [numB, e]
  simp [hasN, this]
theorem hasQ_at {b : List En} (hb : valE b = 0) {x : En} {j : Nat} (hj : j < b.length) (hp : (b.getD j default).p = x.p) (hs : (b.getD j default).s = x.s) : hasQ b x = enEq x (b.getD j default) := by
  cases h : enEq x (b.getD j default)
  · have : allN (eqB b x) b.length = true := allN_of fun k hk => by
      cases h2 : enEq x (b.getD k default)
      · simp [eqB, h2]
      · have n := enEq_num h2
        have := val_uniq hb hk hj (by rw [hp, n.1]) (by rw [hs, n.2])
        subst this
        rw [h] at h2; cases h2
    simp [hasQ, this]
  · have : eqB b x j = false := by simp [eqB, h]
    simp [hasQ, allN_not hj this]
section
variable {lim : Nat} {H : Hp} {K : V → Hp → Prop} {v w : V} {a b : List En} {x y z : Int}
theorem card_compareG (hc : LstV enC H v a) (hw : LstV enC H w b) (hsa : shortC a) (hsb : shortC b) (hlim : lim ≤ H.length)
    (hno : cmpE a b ≠ 0 → ∀ H', HX H H' → K (.tup [.snil, .snil, .snil, .int .i64 (cmpE a b)]) H')
    (hK : cmpE a b = 0 → ∀ H' p q r, HX H H' → OwnT H.length enC H' p (bothL a b a.length) → OwnT H.length enC H' q (firstL a b a.length) → OwnT H.length enC H' r (firstL b a b.length) → Apart p q → Apart r q → K (.tup [p, q, r, .int .i64 0]) H') : VCall tbl lim 59 [v, w] H K := by
  refine VCall_fn tbl_at59 rfl ?_
  simp [vf59, hc.stor, hw.stor]
  refine card_Validate hc hsa fun H1 x1 => ?_
  have hc1 := hc.mono x1
  have hw1 := hw.mono x1
  have l1 := x1.len
  by_cases hva : valE a = 0
  case neg =>
    have e : cmpE a b = valE a := by simp [cmpE, hva]
    simp [eq_false hva]
    have := hno (by rw [e]; exact hva) H1 x1
    rwa [e] at this
  simp [hva, hw.stor]
  refine card_Validate hw1 hsb fun H2 x2 => ?_
  have hc2 := hc1.mono x2
  have hw2 := hw1.mono x2
  have l2 := x2.len
  have x02 := x1.trans x2
  by_cases hvb : valE b = 0
  case neg =>
    have e : cmpE a b = valE b := by simp [cmpE, hva, hvb]
    simp [eq_false hvb]
    have := hno (by rw [e]; exact hvb) H2 x02
    rwa [e] at this
  have hl := valE_small hva
  have hlb := valE_small hvb
  simp [hvb, hc.len]
  refine wLoop_up a.length (fun i fr L H' => ∃ p q, (fr 0 = v ∧ fr 1 = w ∧ fr 6 = .snil ∧ fr 28 = v ∧ fr 29 = .int .i64 a.length ∧ fr 30 = .int .i64 i ∧ fr 4 = p ∧ fr 5 = q) ∧ HX H2 H' ∧ OwnT H2.length enC H' p (bothL a b i) ∧ OwnT H2.length enC H' q (firstL a b i) ∧ Apart p q ∧ allN (okM a b) i = true) ⟨.snil, .snil, by simp [hc.len], HX.refl, .nil, .nil, fun b o z y b' o' z' y' h => (by cases h), rfl⟩ ?_
  rintro i hi fr L H' ⟨p, q, ⟨f0, f1, f6, f28, f29, f30, f4, f5⟩, hx, ob, ou, hap, hz⟩
  simp [f0, f1, f6, f28, f29, f30, f4, f5]
  refine cond_dec (fun ht => ?_) fun hfl => ?_
  · have ht : i < a.length := by omega
    have hc' := hc2.mono hx
    have hw' := hw2.mono hx
    have hxl := hx.len
    have bb := ob.below
    have bu := ou.below
    have nb : (bothL a b i).length ≤ i := filE_len
    have nu : (firstL a b i).length ≤ i := filE_len
    simp (disch := omega) [f0, f1, f6, f28, f29, f30, f4, f5, hc'.at ht, en_load hc', lastO, lastS, hw.stor]
    refine card_find hw' (by omega) (fun j hj hp hs _ => ?_) fun hno2 => ?_
    · have e0 := hasN_yes (x := a.getD i default) hj hp hs
      have eq := hasQ_at hvb (x := a.getD i default) hj hp hs
      have eB : bothL a b (i + 1) = bothL a b i ++ [a.getD i default] := by simp [bothL, filE, e0]
      have eF : firstL a b (i + 1) = firstL a b i := by simp [firstL, filE, e0]
      cases h : enEq (a.getD i default) (b.getD j default)
      · have ho : okM a b i = false := by simp [okM, e0, eq, h]
        have e : cmpE a b = 12 := by simp [cmpE, hva, hvb, allN_not ht ho]
        have h' : enEq ⟨(a.getD i default).p, (a.getD i default).s, (a.getD i default).a, (a.getD i default).b, (a.getD i default).c, (a.getD i default).t⟩ ⟨(b.getD j default).p, (b.getD j default).s, (b.getD j default).a, (b.getD j default).b, (b.getD j default).c, (b.getD j default).t⟩ = false := h
        simp (disch := omega) [f0, f1, f6, f28, f29, f30, f4, f5, lastO, lastS, loAt, loAt0, En.cells, veqA_6, h', h]
        have := hno (by rw [e]; decide) H' (x02.trans hx)
        rwa [e] at this
      · have ho : okM a b i = true := by simp [okM, e0, eq, h]
        have h' : enEq ⟨(a.getD i default).p, (a.getD i default).s, (a.getD i default).a, (a.getD i default).b, (a.getD i default).c, (a.getD i default).t⟩ ⟨(b.getD j default).p, (b.getD j default).s, (b.getD j default).a, (b.getD j default).b, (b.getD j default).c, (b.getD j default).t⟩ = true := h
        obtain ⟨v', H3, b1, b2, b3, b5, b6, b7⟩ := ob.appendF (lim := lim) (bytes := 56) (x := a.getD i default) (cs := [.int .i64 (a.getD i default).p, .int .i64 (a.getD i default).s, .int .i64 (a.getD i default).a, .int .i64 (a.getD i default).b, .int .i64 (a.getD i default).c, .str (a.getD i default).t]) rfl ⟨by omega, hxl⟩ (by omega) (by omega)
        simp (disch := omega) [f0, f1, f6, f28, f29, f30, f4, f5, lastO, lastS, loAt, loAt0, En.cells, veqA_6, h', h, vbslice_some, b1, wrap_i64, eB, eF, allN, ho, hz]
        refine ⟨ht, _, _, ⟨rfl, rfl⟩, b3 _ hx (Nat.le_refl _), b2, ou.keepB fun q o m z e => b6 q (bu _ _ _ _ e) fun o' z' y' e' => hap _ _ _ _ _ _ _ _ e' e rfl, fun q o z y q' o' z' y' h h' => ?_⟩
        have := b7 _ _ _ _ h
        have := bu _ _ _ _ h'
        omega
    · have e0 := hasN_no (x := a.getD i default) hno2
      have ho : okM a b i = true := by simp [okM, e0]
      have eB : bothL a b (i + 1) = bothL a b i := by simp [bothL, filE, e0]
      have eF : firstL a b (i + 1) = firstL a b i ++ [a.getD i default] := by simp [firstL, filE, e0]
      obtain ⟨v', H3, b1, b2, b3, b5, b6, b7⟩ := ou.appendF (lim := lim) (bytes := 56) (x := a.getD i default) (cs := [.int .i64 (a.getD i default).p, .int .i64 (a.getD i default).s, .int .i64 (a.getD i default).a, .int .i64 (a.getD i default).b, .int .i64 (a.getD i default).c, .str (a.getD i default).t]) rfl ⟨by omega, hxl⟩ (by omega) (by omega)
      simp (disch := omega) [f0, f1, f6, f28, f29, f30, f4, f5, lastO, lastS, loAt, loAt0, En.cells, En.zero, vbslice_some, b1, wrap_i64, eB, eF, allN, ho, hz]
      refine ⟨ht, _, _, ⟨rfl, rfl⟩, b3 _ hx (Nat.le_refl _), ob.keepB fun q o m z e => b6 q (bb _ _ _ _ e) fun o' z' y' e' => hap _ _ _ _ _ _ _ _ e e' rfl, b2, fun q o z y q' o' z' y' h h' => ?_⟩
      have := b7 _ _ _ _ h'
      have := bb _ _ _ _ h
      omega
  have : i = a.length := by omega
  subst this
  have e : cmpE a b = 0 := by simp [cmpE, hva, hvb, hz]
  have hK := hK e
  simp [f1, f6, hw.len]
  have bb := ob.below
  have bu := ou.below
  refine wLoop_up b.length (fun i fr L H1 => ∃ r, (fr 0 = v ∧ fr 4 = p ∧ fr 5 = q ∧ fr 6 = r ∧ fr 59 = w ∧ fr 60 = .int .i64 b.length ∧ fr 61 = .int .i64 i) ∧ HX H2 H1 ∧ OwnT H2.length enC H1 p (bothL a b a.length) ∧ OwnT H2.length enC H1 q (firstL a b a.length) ∧ OwnT H2.length enC H1 r (firstL b a i) ∧ Apart r p ∧ Apart r q) ⟨.snil, by simp [f0, f4, f5, f6, f1, hw.len], hx, ob, ou, .nil, fun b o z y b' o' z' y' h => (by cases h), fun b o z y b' o' z' y' h => (by cases h)⟩ ?_
  clear f0 f1 f6 f28 f29 f30 f4 f5 hx ob ou bb bu
  rintro i hi fr L H3 ⟨r, ⟨f0, f4, f5, f6, f59, f60, f61⟩, hx, ob, ou, or, hp1, hq1⟩
  simp [f0, f4, f5, f6, f59, f60, f61]
  refine cond_dec (fun ht => ?_) fun hfl => ?_
  · have ht : i < b.length := by omega
    have hc' := hc2.mono hx
    have hw' := hw2.mono hx
    have hxl := hx.len
    have bb := ob.below
    have bu := ou.below
    have nr : (firstL b a i).length ≤ i := filE_len
    simp (disch := omega) [f0, f4, f5, f6, f59, f60, f61, hw'.at ht, en_load hw', lastO, lastS, hc.stor]
    refine card_find hc' (by omega) (fun j hj hp hs _ => ?_) fun hno2 => ?_
    · have e0 := hasN_yes (x := b.getD i default) hj hp hs
      have eF : firstL b a (i + 1) = firstL b a i := by simp [firstL, filE, e0]
      simp (disch := omega) [f0, f4, f5, f6, f59, f60, f61, lastO, lastS, loAt, loAt0, En.cells, wrap_i64, eF]
      exact ⟨ht, hx, ob, ou, or, hp1, hq1⟩
    · have e0 := hasN_no (x := b.getD i default) hno2
      have eF : firstL b a (i + 1) = firstL b a i ++ [b.getD i default] := by simp [firstL, filE, e0]
      obtain ⟨v', H4, b1, b2, b3, b5, b6, b7⟩ := or.appendF (lim := lim) (bytes := 56) (x := b.getD i default) (cs := [.int .i64 (b.getD i default).p, .int .i64 (b.getD i default).s, .int .i64 (b.getD i default).a, .int .i64 (b.getD i default).b, .int .i64 (b.getD i default).c, .str (b.getD i default).t]) rfl ⟨by omega, hxl⟩ (by omega) (by omega)
      simp (disch := omega) [f0, f4, f5, f6, f59, f60, f61, lastO, lastS, loAt, loAt0, En.cells, En.zero, vbslice_some, b1, wrap_i64, eF]
      refine ⟨ht, b3 _ hx (Nat.le_refl _), ob.keepB fun q o m z e => b6 q (bb _ _ _ _ e) fun o' z' y' e' => hp1 _ _ _ _ _ _ _ _ e' e rfl, ou.keepB fun q o m z e => b6 q (bu _ _ _ _ e) fun o' z' y' e' => hq1 _ _ _ _ _ _ _ _ e' e rfl, b2, fun q o z y q' o' z' y' h h' => ?_, fun q o z y q' o' z' y' h h' => ?_⟩
      · have := b7 _ _ _ _ h
        have := bb _ _ _ _ h'
        omega
      · have := b7 _ _ _ _ h
        have := bu _ _ _ _ h'
        omega
  have : i = b.length := by omega
  subst this
  simp [f4, f5, f6, ob.lst.stor, ou.lst.stor, or.lst.stor]
  exact hK _ _ _ _ (x02.trans hx) (ob.le (by omega)) (ou.le (by omega)) (or.le (by omega)) hap hq1
end
end Go.Proofs.Ytlkoedoannjojaa.Vm
