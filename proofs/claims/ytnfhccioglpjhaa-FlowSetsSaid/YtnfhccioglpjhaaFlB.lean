/- Fields of directions over the machine: comparing edges, all edges. -/
import Derived.Test.YtnfhccioglpjhaaFlA
namespace Go.Proofs.Ytnfhccioglpjhaa.Vm
open Go
set_option maxRecDepth 100000
set_option linter.unusedSimpArgs false
set_option linter.unusedVariables false
attribute [-simp] List.getD_eq_getElem?_getD

def cmpI (a b : Int) : Int := if a < b then -1 else if b < a then 1 else 0
def or3 (a b c : Int) : Int := if a ≠ 0 then a else if b ≠ 0 then b else c
def cmpE (a b : Ed) : Int := or3 (cmpI a.x b.x) (cmpI a.y b.y) (cmpI a.u b.u)
theorem cmpI_in {a b : Int} : -1 ≤ cmpI a b ∧ cmpI a b ≤ 1 := by unfold cmpI; split <;> (try split) <;> omega
theorem cmpE_lt {a b : Ed} : 0 ≤ cmpE a b ↔ ¬ bef a b := by
  unfold cmpE or3 cmpI bef
  by_cases h1 : a.x < b.x
  · simp [h1]
  by_cases h2 : b.x < a.x
  · simp [h1, h2] <;> omega
  by_cases h3 : a.y < b.y
  · simp [h1, h2, h3] <;> omega
  by_cases h4 : b.y < a.y
  · simp [h1, h2, h3, h4] <;> omega
  by_cases h5 : a.u < b.u
  · simp [h1, h2, h3, h4, h5] <;> omega
  by_cases h6 : b.u < a.u
  · simp [h1, h2, h3, h4, h5, h6] <;> omega
  · simp [h1, h2, h3, h4, h5, h6]

section
variable {lim : Nat} {H : Hp} {K : V → Hp → Prop} {v d p : V} {l : List Ed} {W Q x y u : Int}
theorem cmp_isNaN {a : Int} (hK : K (.bool false) H) : VCall tbl lim 48 [.int .i64 a] H K := by
  refine VCall_fn tbl_at48 rfl ?_
  simp [vf48]
  exact hK
theorem cmp_Compare {a b : Int} (hK : K (.int .i64 (cmpI a b)) H) : VCall tbl lim 42 [.int .i64 a, .int .i64 b] H K := by
  refine VCall_fn tbl_at42 rfl ?_
  simp [vf42]
  refine cmp_isNaN ?_
  simp
  refine cmp_isNaN ?_
  simp
  refine cond_dec (fun h => ?_) fun h => ?_
  · simp; simpa [cmpI, h] using hK
  simp
  refine cond_dec (fun h1 => ?_) fun h1 => ?_
  · simp; simpa [cmpI, h, h1] using hK
  · simp; simpa [cmpI, h, h1] using hK
theorem cmp_Or {a b c : Int} (hv : SlV H v [a, b, c]) (hK : K (.int .i64 (or3 a b c)) H) : VCall tbl lim 41 [v] H K := by
  refine VCall_fn tbl_at41 rfl ?_
  simp [vf41, hv.stor, hv.len]
  refine wLoop_up 3 (fun i fr L H' => (fr 3 = .int .i64 0 ∧ fr 6 = v ∧ fr 7 = .int .i64 3 ∧ fr 8 = .int .i64 i) ∧ L = [] ∧ H' = H ∧ ∀ j, j < i → [a, b, c].getD j 0 = 0) ⟨by simp, rfl, rfl, fun j hj => by omega⟩ ?_
  rintro i hi fr L H' ⟨⟨f3, f6, f7, f8⟩, rfl, rfl, hz⟩
  simp [f3, f6, f7, f8]
  refine cond_dec (fun ht => ?_) fun hf => ?_
  · have ht : i < 3 := by omega
    simp (disch := first | omega | (simp; omega)) [f3, f6, f7, f8, hv.addr, hv.load, wrap_i64]
    refine cond_ndec (fun h => ?_) fun h => ?_
    · have e : [a, b, c].getD i 0 = or3 a b c := by
        have z0 : 0 < i → a = 0 := fun h => hz 0 h
        have z1 : 1 < i → b = 0 := fun h => hz 1 h
        rcases (show i = 0 ∨ i = 1 ∨ i = 2 by omega) with rfl | rfl | rfl
        · have h : a ≠ 0 := h
          simp only [or3, ne_eq, h, not_false_eq_true, if_true]; rfl
        · have h : b ≠ 0 := h
          simp only [or3, ne_eq, h, z0 (by omega), not_true_eq_false, not_false_eq_true, if_true, if_false]; rfl
        · simp only [or3, ne_eq, z0 (by omega), z1 (by omega), not_true_eq_false, if_false]; rfl
      simp [f3, f6, f7, f8]
      rw [e]; exact hK
    · simp (disch := omega) [f3, f6, f7, f8, wrap_i64]
      refine ⟨by omega, fun j hj => ?_⟩
      by_cases e : j = i
      · subst e; exact h
      · exact hz j (by omega)
  · have : i = 3 := by omega
    subst this
    have z0 : a = 0 := hz 0 (by omega)
    have z1 : b = 0 := hz 1 (by omega)
    have z2 : c = 0 := hz 2 (by omega)
    subst z0 z1 z2
    simp [f3]
    simpa [or3] using hK
theorem flow_compareEdges {a b : Ed} (hlim : lim ≤ H.length) (hK : ∀ H', HX H H' → K (.int .i64 (cmpE a b)) H') : VCall tbl lim 25 [.agg [.int .i64 a.x, .int .i64 a.y, .int .i64 a.u], .agg [.int .i64 b.x, .int .i64 b.y, .int .i64 b.u]] H K := by
  refine VCall_fn tbl_at25 rfl ?_
  simp [vf25]
  refine cmp_Compare ?_
  simp
  refine cmp_Compare ?_
  simp
  refine cmp_Compare ?_
  simp [splice]
  refine cmp_Or (a := cmpI a.x b.x) (b := cmpI a.y b.y) (c := cmpI a.u b.u) (.lit (l := [cmpI a.x b.x, cmpI a.y b.y, cmpI a.u b.u]) (own := true) List.getElem?_concat_length rfl) ?_
  simp
  exact hK _ HX.push

theorem flow_edges {w q : Nat} (hd : Vm.stor d = true) (hp : Vm.stor p = true) (hW : 1 ≤ w ∧ w ≤ 12) (hQ : 1 ≤ q ∧ q ≤ 12) (hlim : lim ≤ H.length) (hK : ∀ H' v, HX H H' → OwnT H.length edC H' v (edL w q w) → K v H') : VCall tbl lim 34 [.agg [.int .i64 w, .int .i64 q, d, p]] H K := by
  refine VCall_fn tbl_at34 rfl ?_
  simp [vf34, hd, hp]
  refine wLoop_up w (fun i fr L H' => ∃ v X, (fr 1 = .lp 0 0 ∧ fr 3 = v ∧ fr 9 = .int .i64 w ∧ fr 10 = .int .i64 i) ∧ L = [.int .i64 w, .int .i64 q, d, p] :: X ∧ HX H H' ∧ OwnT H.length edC H' v (edL w q i)) ⟨.snil, [], by simp, rfl, .refl, .nil⟩ ?_
  rintro i hi fr L H' ⟨v, X, ⟨f1, f3, f9, f10⟩, rfl, hx, hv⟩
  simp [f1, f3, f9, f10]
  refine cond_dec (fun ht => ?_) fun hf => ?_
  · have ht : i < w := by omega
    simp [f1, f3, f9, f10]
    refine wLoop_up q (fun j fr L H' => ∃ v X, (fr 1 = .lp 0 0 ∧ fr 3 = v ∧ fr 4 = .int .i64 i ∧ fr 9 = .int .i64 w ∧ fr 10 = .int .i64 i ∧ fr 14 = .int .i64 q ∧ fr 15 = .int .i64 j) ∧ L = [.int .i64 w, .int .i64 q, d, p] :: X ∧ HX H H' ∧ OwnT H.length edC H' v (edL w q i ++ rowL w q i j)) ⟨v, X, by simp [f1, f3, f9, f10], rfl, hx, by simpa [rowL] using hv⟩ ?_
    clear f1 f3 f9 f10 hx hv
    rintro j hj fr L H' ⟨v, X, ⟨f1, f3, f4, f9, f10, f14, f15⟩, rfl, hx, hv⟩
    simp [f1, f3, f4, f9, f10, f14, f15]
    refine cond_dec (fun ht2 => ?_) fun hf2 => ?_
    · have ht2 : j < q := by omega
      simp [f1, f3, f4, f9, f10, f14, f15]
      refine wLoop_up 2 (fun k fr L H' => ∃ v X, (fr 1 = .lp 0 0 ∧ fr 3 = v ∧ fr 4 = .int .i64 i ∧ fr 5 = .int .i64 j ∧ fr 9 = .int .i64 w ∧ fr 10 = .int .i64 i ∧ fr 14 = .int .i64 q ∧ fr 15 = .int .i64 j ∧ fr 18 = .int .i64 k) ∧ L = [.int .i64 w, .int .i64 q, d, p] :: X ∧ HX H H' ∧ OwnT H.length edC H' v (edL w q i ++ rowL w q i j ++ upL w q i j k)) ⟨v, X, by simp [f1, f3, f4, f9, f10, f14, f15], rfl, hx, by simpa [upL] using hv⟩ ?_
      clear f1 f3 f4 f9 f10 f14 f15 hx hv
      rintro k hk fr L H' ⟨v, X, ⟨f1, f3, f4, f5, f9, f10, f14, f15, f18⟩, rfl, hx, hv⟩
      simp [f1, f3, f4, f5, f9, f10, f14, f15, f18]
      refine cond_dec (fun ht3 => ?_) fun hf3 => ?_
      · have ht3 : k < 2 := by omega
        simp [f1, f3, f4, f5, f9, f10, f14, f15, f18, lastO, lastS, hd, hp]
        refine flow_isEdge (W := (w : Int)) (Q := (q : Int)) hd hp (by omega) (by omega) ?_
        have hxl := hx.len
        have hll : (edL w q i ++ rowL w q i j ++ upL w q i j k).length ≤ 1000 := by
          have := edL_len (w := w) (q := q) (by omega) i
          have := rowL_len (w := w) (q := q) (x := i) j
          have := upL_len (w := w) (q := q) (x := i) (y := j) k
          simp only [List.length_append]; omega
        simp
        refine cond_bool (fun h => ?_) fun h => ?_
        · obtain ⟨v', H2, a1, a2, a3, a4, a5, a6⟩ := hv.append (lim := lim) (bytes := 24) (x := ⟨i, j, k⟩) (cs := [.int .i64 i, .int .i64 j, .int .i64 k]) rfl ⟨hlim, hx.len⟩ (by omega) (by omega)
          have e : edL w q i ++ rowL w q i j ++ upL w q i j (k + 1) = edL w q i ++ rowL w q i j ++ upL w q i j k ++ [⟨i, j, k⟩] := by
            simp only [upL, h, if_true, List.append_assoc]
          simp (disch := omega) [f1, f3, f4, f5, f9, f10, f14, f15, f18, lastO, lastS, a1, wrap_i64]
          refine ⟨by omega, a3 _ hx (Nat.le_refl _), ?_⟩
          rw [← List.append_assoc, e]; exact a2
        · have e : edL w q i ++ rowL w q i j ++ upL w q i j (k + 1) = edL w q i ++ rowL w q i j ++ upL w q i j k := by
            simp [upL, h]
          simp (disch := omega) [f1, f3, f4, f5, f9, f10, f14, f15, f18, wrap_i64]
          refine ⟨by omega, hx, ?_⟩
          rw [← List.append_assoc, e]; exact hv
      · have : k = 2 := by omega
        subst this
        simp (disch := omega) [f1, f3, f4, f5, f9, f10, f14, f15, f18, wrap_i64]
        refine ⟨by omega, hx, ?_⟩
        simpa [rowL] using hv
    · have : j = q := by omega
      subst this
      simp (disch := omega) [f1, f3, f4, f9, f10, f14, f15, wrap_i64]
      refine ⟨by omega, hx, ?_⟩
      simpa [edL] using hv
  · have : i = w := by omega
    subst this
    simp [f1, f3, f9, f10, hv.lst.stor]
    exact hK _ _ hx hv

theorem ref_edges {w q : Nat} (hd : Vm.stor d = true) (hp : Vm.stor p = true) (hW : 1 ≤ w ∧ w ≤ 12) (hQ : 1 ≤ q ∧ q ≤ 12) (hlim : lim ≤ H.length) (hK : ∀ H' v, HX H H' → OwnT H.length edC H' v (edL w q w) → K v H') : VCall tbl lim 39 [.agg [.int .i64 w, .int .i64 q, d, p]] H K := by
  refine VCall_fn tbl_at39 rfl ?_
  simp [vf39, hd, hp]
  refine wLoop_up w (fun i fr L H' => ∃ v X, (fr 1 = .lp 0 0 ∧ fr 3 = v ∧ fr 4 = .int .i64 i) ∧ L = [.int .i64 w, .int .i64 q, d, p] :: X ∧ HX H H' ∧ OwnT H.length edC H' v (edL w q i)) ⟨.snil, [], by simp, rfl, .refl, .nil⟩ ?_
  rintro i hi fr L H' ⟨v, X, ⟨f1, f3, f4⟩, rfl, hx, hv⟩
  simp [f1, f3, f4]
  refine cond_dec (fun ht => ?_) fun hf => ?_
  · have ht : i < w := by omega
    simp [f1, f3, f4]
    refine wLoop_up q (fun j fr L H' => ∃ v X, (fr 1 = .lp 0 0 ∧ fr 3 = v ∧ fr 4 = .int .i64 i ∧ fr 5 = .int .i64 j) ∧ L = [.int .i64 w, .int .i64 q, d, p] :: X ∧ HX H H' ∧ OwnT H.length edC H' v (edL w q i ++ rowL w q i j)) ⟨v, X, by simp [f1, f3, f4], rfl, hx, by simpa [rowL] using hv⟩ ?_
    clear f1 f3 f4 hx hv
    rintro j hj fr L H' ⟨v, X, ⟨f1, f3, f4, f5⟩, rfl, hx, hv⟩
    simp [f1, f3, f4, f5]
    refine cond_dec (fun ht2 => ?_) fun hf2 => ?_
    · have ht2 : j < q := by omega
      simp [f1, f3, f4, f5]
      refine wLoop_up 2 (fun k fr L H' => ∃ v X, (fr 1 = .lp 0 0 ∧ fr 3 = v ∧ fr 4 = .int .i64 i ∧ fr 5 = .int .i64 j ∧ fr 6 = .int .i64 k) ∧ L = [.int .i64 w, .int .i64 q, d, p] :: X ∧ HX H H' ∧ OwnT H.length edC H' v (edL w q i ++ rowL w q i j ++ upL w q i j k)) ⟨v, X, by simp [f1, f3, f4, f5], rfl, hx, by simpa [upL] using hv⟩ ?_
      clear f1 f3 f4 f5 hx hv
      rintro k hk fr L H' ⟨v, X, ⟨f1, f3, f4, f5, f6⟩, rfl, hx, hv⟩
      simp [f1, f3, f4, f5, f6]
      refine cond_dec (fun ht3 => ?_) fun hf3 => ?_
      · have ht3 : k < 2 := by omega
        simp [f1, f3, f4, f5, f6, lastO, lastS, hd, hp]
        refine ref_isEdge (W := (w : Int)) (Q := (q : Int)) hd hp (by omega) (by omega) ?_
        have hxl := hx.len
        have hll : (edL w q i ++ rowL w q i j ++ upL w q i j k).length ≤ 1000 := by
          have := edL_len (w := w) (q := q) (by omega) i
          have := rowL_len (w := w) (q := q) (x := i) j
          have := upL_len (w := w) (q := q) (x := i) (y := j) k
          simp only [List.length_append]; omega
        simp
        refine cond_bool (fun h => ?_) fun h => ?_
        · obtain ⟨v', H2, a1, a2, a3, a4, a5, a6⟩ := hv.append (lim := lim) (bytes := 24) (x := ⟨i, j, k⟩) (cs := [.int .i64 i, .int .i64 j, .int .i64 k]) rfl ⟨hlim, hx.len⟩ (by omega) (by omega)
          have e : edL w q i ++ rowL w q i j ++ upL w q i j (k + 1) = edL w q i ++ rowL w q i j ++ upL w q i j k ++ [⟨i, j, k⟩] := by
            simp only [upL, h, if_true, List.append_assoc]
          simp (disch := omega) [f1, f3, f4, f5, f6, lastO, lastS, a1, wrap_i64]
          refine ⟨by omega, a3 _ hx (Nat.le_refl _), ?_⟩
          rw [← List.append_assoc, e]; exact a2
        · have e : edL w q i ++ rowL w q i j ++ upL w q i j (k + 1) = edL w q i ++ rowL w q i j ++ upL w q i j k := by
            simp [upL, h]
          simp (disch := omega) [f1, f3, f4, f5, f6, wrap_i64]
          refine ⟨by omega, hx, ?_⟩
          rw [← List.append_assoc, e]; exact hv
      · have : k = 2 := by omega
        subst this
        simp (disch := omega) [f1, f3, f4, f5, f6, wrap_i64]
        refine ⟨by omega, hx, ?_⟩
        simpa [rowL] using hv
    · have : j = q := by omega
      subst this
      simp (disch := omega) [f1, f3, f4, f5, wrap_i64]
      refine ⟨by omega, hx, ?_⟩
      simpa [edL] using hv
  · have : i = w := by omega
    subst this
    simp [f1, f3, f4, hv.lst.stor]
    exact hK _ _ hx hv
end
end Go.Proofs.Ytnfhccioglpjhaa.Vm
