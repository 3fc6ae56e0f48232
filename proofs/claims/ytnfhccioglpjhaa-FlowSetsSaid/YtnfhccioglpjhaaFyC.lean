/- Package flow: a direction set, a parting made (both sides). -/
import Derived.Test.YtnfhccioglpjhaaFyB
namespace Go.Proofs.Ytnfhccioglpjhaa.Vm
open Go
set_option maxRecDepth 100000
set_option maxHeartbeats 1000000
set_option linter.unusedSimpArgs false
set_option linter.unusedVariables false
attribute [-simp] List.getD_eq_getElem?_getD
theorem hx_at {H0 H' : Hp} (h : ∀ b, b < H0.length → H'[b]? = H0[b]?) (hl : H0.length ≤ H'.length) : HX H0 H' := by
  refine ⟨H'.drop H0.length, ?_⟩
  apply List.ext_getElem?
  intro b
  by_cases hb : b < H0.length
  · rw [List.getElem?_append_left hb]; exact h b hb
  · rw [List.getElem?_append_right (by omega), List.getElem?_drop]; congr 1; omega
theorem hx_get {H0 H' : Hp} (h : HX H0 H') {b : Nat} (hb : b < H0.length) : H'[b]? = H0[b]? := by
  obtain ⟨X, rfl⟩ := h
  exact List.getElem?_append_left hb
theorem OwnV.keepB {n : Nat} {H H' : Hp} {v : V} {l : List Int} (h : OwnV n H v l) (hk : ∀ b o k z, v = .sl b o k z → H'[b]? = H[b]?) : OwnV n H' v l := by
  cases h with
  | nil => exact .nil
  | row h1 h2 => exact .row h1 (by rw [hk _ _ _ _ rfl]; exact h2)
def isPB (W Q x y : Int) : Bool := decide (0 ≤ x ∧ x < W ∧ 0 ≤ y ∧ y < Q)
def setL (W : Int) (D : List Int) (x y z : Int) : List Int := D.set (y * W + x).toNat z
def setE (W Q : Int) (D : List Int) (P : List Ed) (x y z : Int) : Int :=
  if validP W Q D P ≠ 0 then validP W Q D P else if isPB W Q x y = false then 5 else validP W Q (setL W D x y z) P
/-- the edges with one more, or without it -/
def partL (P : List Ed) (e : Ed) : List Ed := if e ∈ P then P.filter (fun a => decide (a ≠ e)) else putL P e
def partE (W Q : Int) (D : List Int) (P : List Ed) (e : Ed) : Int :=
  if validP W Q D P ≠ 0 then validP W Q D P else if isEB W Q e.x e.y e.u = false then 5 else validP W Q D (partL P e)
theorem pw_of {P : List Ed} (h : ∀ i j, i < j → j < P.length → bef (P.getD i default) (P.getD j default)) : P.Pairwise bef := by
  rw [List.pairwise_iff_getElem]
  intro i j hi hj hij
  have := h i j hij hj
  rwa [List.getD_eq_getElem?_getD, List.getD_eq_getElem?_getD, List.getElem?_eq_getElem hi, List.getElem?_eq_getElem hj] at this
theorem PreF.pw {w q : Nat} {D : List Int} {P : List Ed} (h : PreF w q D P) : P.Pairwise bef := pw_of fun i j hij hj => h.sorted hij hj
theorem filter_mem {P : List Ed} {e x : Ed} : x ∈ P.filter (fun a => decide (a ≠ e)) ↔ x ∈ P ∧ x ≠ e := by simp
theorem partL_asc {P : List Ed} {e : Ed} (h : P.Pairwise bef) : (partL P e).Pairwise bef := by
  unfold partL
  split
  · exact h.filter _
  · exact putL_asc h (by assumption)
theorem partL_mem {P : List Ed} {e x : Ed} : x ∈ partL P e ↔ if e ∈ P then x ∈ P ∧ x ≠ e else x = e ∨ x ∈ P := by
  unfold partL
  split
  · exact filter_mem
  · exact putL_mem
theorem partL_two {P : List Ed} {e : Ed} (h : P.Pairwise bef) : partL (partL P e) e = P := by
  refine ed_uniq (partL_asc (partL_asc h)) h fun x => ?_
  by_cases he : e ∈ P
  · have hn : e ∉ partL P e := by rw [partL_mem, if_pos he]; simp
    rw [partL_mem (P := partL P e), if_neg hn, partL_mem, if_pos he]
    constructor
    · rintro (rfl | h1)
      · exact he
      · exact h1.1
    · intro h1
      by_cases e1 : x = e
      · exact Or.inl e1
      · exact Or.inr ⟨h1, e1⟩
  · have hy : e ∈ partL P e := by rw [partL_mem, if_neg he]; simp
    rw [partL_mem (P := partL P e), if_pos hy, partL_mem, if_neg he]
    constructor
    · rintro ⟨h1, h2⟩
      exact h1.resolve_left h2
    · intro h1
      exact ⟨Or.inr h1, fun e1 => he (e1 ▸ h1)⟩
theorem cmpE_zero {a b : Ed} : cmpE a b = 0 ↔ a = b := by
  constructor
  · intro h
    unfold cmpE or3 cmpI at h
    cases a; cases b
    simp only [Ed.mk.injEq]
    split at h <;> (try split at h) <;> (repeat' split at h) <;> simp_all <;> omega
  · rintro rfl
    simp [cmpE, or3, cmpI]
/-- what stands, and what is found -/
theorem at_found {P : List Ed} {e : Ed} {a : Nat} (h : P.Pairwise bef) (ha : AtE P e a) : (a < P.length ∧ cmpE (P.getD a default) e = 0) ↔ e ∈ P := by
  rw [cmpE_zero]
  constructor
  · rintro ⟨h1, rfl⟩
    rw [List.getD_eq_getElem?_getD, List.getElem?_eq_getElem h1]
    exact List.getElem_mem h1
  · intro hm
    obtain ⟨j, hj, hje⟩ := List.getElem_of_mem hm
    have hd : P.getD j default = e := by rw [List.getD_eq_getElem?_getD, List.getElem?_eq_getElem hj]; exact hje
    have h1 : a ≤ j := by
      rcases Nat.lt_or_ge j a with h2 | h2
      · have := ha.lo j h2; rw [hd] at this; exact absurd this bef_irr
      · exact h2
    have h3 : a < P.length := by omega
    refine ⟨h3, ?_⟩
    by_cases e1 : a = j
    · rw [e1]; exact hd
    · exfalso
      have := List.pairwise_iff_getElem.1 h a j h3 hj (by omega)
      have h4 := ha.hi a (Nat.le_refl _) h3
      rw [List.getD_eq_getElem?_getD, List.getElem?_eq_getElem h3] at h4
      rw [hje] at this
      exact h4 this
theorem at_ins {P : List Ed} {e : Ed} {a : Nat} (h : P.Pairwise bef) (ha : AtE P e a) (hn : e ∉ P) : P.take a ++ [e] ++ P.drop a = partL P e := by
  have hp : partL P e = putL P e := by unfold partL; rw [if_neg hn]
  rw [hp]
  refine ed_uniq ?_ (putL_asc h hn) fun x => ?_
  · rw [List.pairwise_append, List.pairwise_append]
    refine ⟨⟨h.sublist (List.take_sublist _ _), List.pairwise_singleton _ _, fun x hx y hy => ?_⟩, h.sublist (List.drop_sublist _ _), fun x hx y hy => ?_⟩
    · simp at hy; subst hy
      obtain ⟨j, hj, rfl⟩ := List.getElem_of_mem hx
      have hj' : j < a := by simp at hj; omega
      have := ha.lo j hj'
      rw [List.getD_eq_getElem?_getD, List.getElem?_eq_getElem (by simp at hj; omega)] at this
      simpa using this
    · obtain ⟨j, hj, rfl⟩ := List.getElem_of_mem hy
      have hj' : a + j < P.length := by simp at hj; omega
      have h1 := ha.hi (a + j) (by omega) hj'
      rw [List.getD_eq_getElem?_getD, List.getElem?_eq_getElem hj'] at h1
      simp only [Option.getD_some] at h1
      have hy2 : (P.drop a)[j] = P[a + j] := by simp
      rw [hy2]
      have hne : P[a + j] ≠ e := fun e1 => hn (e1 ▸ List.getElem_mem hj')
      have hey : bef e P[a + j] := (bef_tot hne).resolve_left h1
      rcases List.mem_append.1 hx with hx | hx
      · obtain ⟨i, hi, rfl⟩ := List.getElem_of_mem hx
        have hi' : i < a := by simp at hi; omega
        have := List.pairwise_iff_getElem.1 h i (a + j) (by omega) hj' (by omega)
        simpa using this
      · simp at hx; subst hx; exact hey
  · rw [putL_mem]
    simp only [List.mem_append, List.mem_singleton]
    constructor
    · rintro ((h1 | h1) | h1)
      · exact Or.inr (List.mem_of_mem_take h1)
      · exact Or.inl h1
      · exact Or.inr (List.mem_of_mem_drop h1)
    · rintro (h1 | h1)
      · exact Or.inl (Or.inr h1)
      · rw [← List.take_append_drop a P, List.mem_append] at h1
        rcases h1 with h1 | h1
        · exact Or.inl (Or.inl h1)
        · exact Or.inr h1
theorem at_del {P : List Ed} {e : Ed} {a : Nat} (h : P.Pairwise bef) (ha : a < P.length) (he : P.getD a default = e) : P.take a ++ P.drop (a + 1) = partL P e := by
  have hg : P[a] = e := by rw [List.getD_eq_getElem?_getD, List.getElem?_eq_getElem ha] at he; exact he
  have hm : e ∈ P := hg ▸ List.getElem_mem ha
  have hs : (P.take a ++ P.drop (a + 1)).Sublist P := by
    rw [← List.eraseIdx_eq_take_drop_succ]
    exact List.eraseIdx_sublist _ _
  refine ed_uniq (h.sublist hs) (partL_asc h) fun x => ?_
  rw [partL_mem, if_pos hm]
  constructor
  · intro hx
    refine ⟨hs.subset hx, ?_⟩
    rintro rfl
    rcases List.mem_append.1 hx with hx | hx
    · obtain ⟨i, hi, hie⟩ := List.getElem_of_mem hx
      have hi' : i < a := by simp at hi; omega
      have := List.pairwise_iff_getElem.1 h i a (by omega) ha hi'
      rw [hg] at this
      have e2 : P[i]'(by omega) = x := by simpa using hie
      rw [e2] at this
      exact bef_irr this
    · obtain ⟨i, hi, hie⟩ := List.getElem_of_mem hx
      have hi' : a + 1 + i < P.length := by simp at hi; omega
      have := List.pairwise_iff_getElem.1 h a (a + 1 + i) ha hi' (by omega)
      rw [hg] at this
      have e2 : P[a + 1 + i] = x := by simpa using hie
      rw [e2] at this
      exact bef_irr this
  · rintro ⟨hx, hne⟩
    obtain ⟨i, hi, rfl⟩ := List.getElem_of_mem hx
    rw [List.mem_append]
    by_cases h1 : i < a
    · left
      rw [List.mem_iff_getElem]
      exact ⟨i, by simp; omega, by simp⟩
    · right
      have : i ≠ a := fun e1 => hne (by subst e1; exact hg)
      rw [List.mem_iff_getElem]
      exact ⟨i - (a + 1), by simp; omega, by simp; congr 1; omega⟩
section
variable {n lim : Nat} {H : Hp} {K : V → Hp → Prop} {v d p : V} {D : List Int} {P : List Ed} {W Q x y z : Int}
theorem OwnT.from {α : Type} {k n : Nat} {c : Cod α k} {l : List α} (h : OwnT n c H v l) : ∀ b o m z, v = .sl b o m z → n ≤ b := by
  rintro b o m z rfl
  cases h with
  | row h1 h2 => exact h1
theorem flow_isPlaceB (hd : Vm.stor d = true) (hp : Vm.stor p = true) (hK : K (.bool (isPB W Q x y)) H) : VCall tbl lim 16 [.agg [.int .i64 W, .int .i64 Q, d, p], .int .i64 x, .int .i64 y] H K := flow_isPlace hd hp hK
theorem place_at {w q : Nat} (hw : 1 ≤ w ∧ w ≤ 12) (hq : 1 ≤ q ∧ q ≤ 12) (hb : isPB w q x y = true) : ∃ m : Int, y * (w : Int) = m ∧ 0 ≤ m ∧ m ≤ 144 ∧ 0 ≤ x ∧ x < w ∧ 0 ≤ m + x ∧ m + x < (w : Int) * q := by
  have hb : 0 ≤ x ∧ x < w ∧ 0 ≤ y ∧ y < q := of_decide_eq_true hb
  have h1 : y * (w : Int) ≤ ((q : Int) - 1) * w := Int.mul_le_mul_of_nonneg_right (by omega) (by omega)
  have h2 : 0 ≤ y * (w : Int) := Int.mul_nonneg (by omega) (by omega)
  have h3 : ((q : Int) - 1) * w = (w : Int) * q - w := by rw [Int.sub_mul, Int.one_mul, Int.mul_comm]
  have h4 : (w : Int) * q ≤ 12 * 12 := Int.mul_le_mul (by omega) (by omega) (by omega) (by omega)
  exact ⟨_, rfl, h2, by omega, hb.1, hb.2.1, by omega, by omega⟩
theorem flow_Set (hd : SlV H d D) (hp : EdV H p P) (hW : I64 W) (hQ : I64 Q) (hz : I64 z) (hl : D.length ≤ 1000 ∧ P.length ≤ 1000) (hlim : lim ≤ H.length)
    (hbad : setE W Q D P x y z ≠ 0 → ∀ H', HX H H' → K (.tup [.agg [.int .i64 0, .int .i64 0, .snil, .snil], .int .i64 (setE W Q D P x y z)]) H')
    (hK : setE W Q D P x y z = 0 → ∀ H' d' p', HX H H' → OwnV H.length H' d' (setL W D x y z) → EdV H' p' P → (∀ b o m k o' m' k', d' = .sl b o m k → p' = .sl b o' m' k' → False) → K (.tup [.agg [.int .i64 W, .int .i64 Q, d', p'], .int .i64 0]) H') :
    VCall tbl lim 7 [.agg [.int .i64 W, .int .i64 Q, d, p], .int .i64 x, .int .i64 y, .int .i64 z] H K := by
  refine VCall_fn tbl_at7 rfl ?_
  simp [vf7, hd.stor, hp.stor]
  refine flow_Validate hd hp hW hQ ⟨by omega, by omega⟩ hlim fun H1 x1 => ?_
  replace x1 : HX H H1 := x1
  have l1 := x1.len
  simp
  refine cond_ndec (fun h => ?_) fun h => ?_
  · have e1 : setE W Q D P x y z = validP W Q D P := by unfold setE; rw [if_pos h]
    simp
    have := hbad (by rw [e1]; exact h) H1 x1
    rw [e1] at this
    exact this
  have h0 : ¬ validP W Q D P ≠ 0 := by simpa using h
  obtain ⟨w, q, rfl, rfl, hf⟩ := valid_pre (by simpa using h)
  simp [hd.stor, hp.stor]
  refine flow_isPlaceB hd.stor hp.stor ?_
  simp
  refine cond_bool (fun hb => ?_) fun hb => ?_
  · have hb : isPB w q x y = false := by simpa using hb
    have e1 : setE w q D P x y z = 5 := by unfold setE; rw [if_neg h0, if_pos hb]
    simp
    have := hbad (by rw [e1]; decide) H1 x1
    rw [e1] at this
    exact this
  have hb : isPB w q x y = true := by simpa using hb
  have e1 : setE w q D P x y z = validP w q (setL w D x y z) P := by unfold setE; rw [if_neg h0, if_neg (by rw [hb]; decide)]
  rw [e1] at hbad hK
  simp [hd.stor, hp.stor]
  refine flow_clone (hd.mono x1) (hp.mono x1) (by omega) hl fun H2 H3 d1 p1 x2 x3 o0 o1 o2 => ?_
  replace x2 : HX H1 H2 := x2
  replace x3 : HX H2 H3 := x3
  have l2 := x2.len
  have l3 := x3.len
  have hb0 := o0.below
  obtain ⟨m, hm, m1, m2, px1, px2, k1, k2⟩ := place_at hf.w1 hf.q1 hb
  have hlen : (D.length : Int) = (w : Int) * q := hf.dl
  obtain ⟨k, hk⟩ : ∃ k : Nat, m + x = k := ⟨(m + x).toNat, by omega⟩
  have hkl : k < D.length := by omega
  have hsl : setL w D x y z = D.set k z := by unfold setL; rw [hm, hk]; simp
  rw [hsl] at hbad hK
  have hst := fun L => o1.store (lim := lim) (i := k) (x := z) (L := L) ⟨by omega, hkl⟩
  have hw1 : IntKind.wrap .i64 (y * (w : Int)) = m := by rw [hm]; exact wrap_i64 (by omega) (by omega)
  have hw2 : IntKind.wrap .i64 (m + x) = (k : Int) := by rw [hk]; exact wrap_i64 (by omega) (by omega)
  simp [o1.sl.stor, o2.lst.stor, o1.sl.len]
  rw [hw1, hw2]
  simp (disch := omega) [o1.sl.addr, hkl, hst, -vstore]
  have q1 : OwnV H1.length (setH H3 d1 (ints (D.set k z))) d1 (D.set k z) := o1.put (by simp)
  have q2 : EdV (setH H3 d1 (ints (D.set k z))) p1 P := ⟨(o2.keep fun b hb2 => setH_oth o1 hb0 (Or.inr hb2)).lst, hp.all⟩
  have q3 : HX H1 (setH H3 d1 (ints (D.set k z))) := setH_X (x2.trans x3) o1 (Nat.le_refl _)
  have q3l := q3.len
  try simp [q1.sl.stor, q2.stor]
  refine flow_checkedE q1.sl q2 hW hQ (by simpa using hl) (by omega) (fun hb2 H4 x4 => ?_) fun hg H4 x4 => ?_
  · replace x4 : HX (setH H3 d1 (ints (D.set k z))) H4 := x4
    simp
    exact hbad hb2 _ ((x1.trans q3).trans x4)
  · replace x4 : HX (setH H3 d1 (ints (D.set k z))) H4 := x4
    simp [q1.sl.stor, q2.stor]
    refine hK hg _ _ _ ((x1.trans q3).trans x4) ?_ (q2.mono x4) fun b o m' k' o' m'' k'' g1 g2 => ?_
    · exact (q1.mono x4).le l1
    · have := hb0 _ _ _ _ g1
      have := o2.from _ _ _ _ g2
      omega
theorem EdV.part (h : ∀ a ∈ P, a.in64) {e : Ed} (he : e.in64) : ∀ a ∈ partL P e, a.in64 := by
  intro a ha
  unfold partL at ha
  split at ha
  · exact h a (filter_mem.1 ha).1
  · rcases putL_mem.1 ha with rfl | h1
    · exact he
    · exact h a h1
theorem putL_len {e : Ed} : ∀ {l : List Ed}, (putL l e).length = l.length + 1
  | [] => by simp [putL]
  | a :: l => by
    simp only [putL]
    split <;> simp [putL_len (l := l)]
theorem partL_len {e : Ed} : (partL P e).length ≤ P.length + 1 := by
  unfold partL
  split
  · have := List.length_filter_le (fun a => decide (a ≠ e)) P; omega
  · rw [putL_len]; exact Nat.le_refl _
theorem flow_Part {e : Ed} (hd : SlV H d D) (hp : EdV H p P) (hW : I64 W) (hQ : I64 Q) (he : e.in64) (hl : D.length ≤ 900 ∧ P.length ≤ 900) (hlim : lim ≤ H.length)
    (hbad : partE W Q D P e ≠ 0 → ∀ H', HX H H' → K (.tup [.agg [.int .i64 0, .int .i64 0, .snil, .snil], .int .i64 (partE W Q D P e)]) H')
    (hK : partE W Q D P e = 0 → ∀ H' d' p', HX H H' → SlV H' d' D → EdV H' p' (partL P e) → K (.tup [.agg [.int .i64 W, .int .i64 Q, d', p'], .int .i64 0]) H') :
    VCall tbl lim 9 [.agg [.int .i64 W, .int .i64 Q, d, p], .agg [.int .i64 e.x, .int .i64 e.y, .int .i64 e.u]] H K := by
  refine VCall_fn tbl_at9 rfl ?_
  simp [vf9, hd.stor, hp.stor]
  refine flow_Validate hd hp hW hQ ⟨by omega, by omega⟩ hlim fun H1 x1 => ?_
  replace x1 : HX H H1 := x1
  have l1 := x1.len
  simp
  refine cond_ndec (fun h => ?_) fun h => ?_
  · have e1 : partE W Q D P e = validP W Q D P := by unfold partE; rw [if_pos h]
    simp
    have := hbad (by rw [e1]; exact h) H1 x1
    rw [e1] at this
    exact this
  have h0 : ¬ validP W Q D P ≠ 0 := by simpa using h
  obtain ⟨w, q, rfl, rfl, hf⟩ := valid_pre (by simpa using h)
  have hpw := hf.pw
  simp [hd.stor, hp.stor]
  refine flow_isEdge (W := (w : Int)) (Q := (q : Int)) hd.stor hp.stor (by have := hf.w1; omega) (by have := hf.q1; omega) ?_
  simp
  refine cond_bool (fun hb => ?_) fun hb => ?_
  · have hb : isEB w q e.x e.y e.u = false := by simpa using hb
    have e1 : partE w q D P e = 5 := by unfold partE; rw [if_neg h0, if_pos hb]
    simp
    have := hbad (by rw [e1]; decide) H1 x1
    rw [e1] at this
    exact this
  have hb : isEB w q e.x e.y e.u = true := by simpa using hb
  have e1 : partE w q D P e = validP w q D (partL P e) := by unfold partE; rw [if_neg h0, if_neg (by rw [hb]; decide)]
  rw [e1] at hbad hK
  simp [hd.stor, hp.stor]
  refine flow_clone (hd.mono x1) (hp.mono x1) (by omega) ⟨by omega, by omega⟩ fun H2 H3 d1 p1 x2 x3 o0 o1 o2 => ?_
  replace x2 : HX H1 H2 := x2
  replace x3 : HX H2 H3 := x3
  have l2 := x2.len
  have l3 := x3.len
  have hd0 := o0.below
  simp [o1.sl.stor, o2.lst.stor]
  refine bsearch o2.lst (fun i j hij hj => hf.sorted hij hj) (by omega) (by omega) fun H4 a x4 ha => ?_
  replace x4 : HX H3 H4 := x4
  have l4 := x4.len
  have o2' := o2.mono x4
  have o1' := o1.mono x4
  simp
  refine cond_bool (fun hc => ?_) fun hc => ?_
  · have hc2 : a < P.length ∧ cmpE (P.getD a default) e = 0 := of_decide_eq_true hc
    have hdl := at_del hpw hc2.1 (cmpE_zero.1 hc2.2)
    have hw : IntKind.wrap .i64 ((a : Int) + 1) = (a : Int) + 1 := wrap_i64 (by omega) (by omega)
    simp [o2'.lst.stor, hw]
    refine del_ed o2' hc2.1 (by omega) (by omega) fun H5 p2 y1 y2 y3 => ?_
    rw [hdl] at y1
    have hp2 : EdV H5 p2 (partL P e) := ⟨y1, EdV.part hp.all he⟩
    have hd2 : OwnV H1.length H5 d1 D := o1'.keepB fun b o m z g => y3 b fun o' m' z' g2 => by
      have := hd0 _ _ _ _ g
      have := o2.from _ _ _ _ g2
      omega
    have x5 : HX H1 H5 := hx_at (fun b hb5 => by
      rw [y3 b fun o' m' z' g2 => by have := o2.from _ _ _ _ g2; omega]
      exact hx_get ((x2.trans x3).trans x4) hb5) (by omega)
    simp [hp2.lst.stor, hp2.lst.one, hd2.sl.stor]
    refine flow_checkedE hd2.sl hp2 hW hQ ⟨by omega, by have := partL_len (P := P) (e := e); omega⟩ (by omega) (fun hb2 H6 x6 => ?_) fun hg H6 x6 => ?_
    · simp
      exact hbad hb2 _ ((x1.trans x5).trans x6)
    · simp [hp2.lst.stor, hd2.sl.stor]
      exact hK hg _ _ _ ((x1.trans x5).trans x6) (hd2.sl.mono x6) (hp2.mono x6)
  · have hn : e ∉ P := fun hm => by
      have := (at_found hpw ha).2 hm
      simp [fndE, this] at hc
    simp [o2'.lst.stor]
    refine ins_ed o2' ha.le (by omega) ⟨by omega, by omega⟩ fun H5 p2 y1 y2 y3 => ?_
    rw [at_ins hpw ha hn] at y1
    have hp2 : EdV H5 p2 (partL P e) := ⟨y1, EdV.part hp.all he⟩
    have hd2 : OwnV H1.length H5 d1 D := o1'.keepB fun b o m z g => y3 b (by
      have := hd0 _ _ _ _ g
      omega) fun o' m' z' g2 => by
      have := hd0 _ _ _ _ g
      have := o2.from _ _ _ _ g2
      omega
    have x5 : HX H1 H5 := hx_at (fun b hb5 => by
      rw [y3 b (by omega) fun o' m' z' g2 => by have := o2.from _ _ _ _ g2; omega]
      exact hx_get ((x2.trans x3).trans x4) hb5) (by omega)
    simp [hp2.lst.stor, hp2.lst.one, hd2.sl.stor]
    refine flow_checkedE hd2.sl hp2 hW hQ ⟨by omega, by have := partL_len (P := P) (e := e); omega⟩ (by omega) (fun hb2 H6 x6 => ?_) fun hg H6 x6 => ?_
    · simp
      exact hbad hb2 _ ((x1.trans x5).trans x6)
    · simp [hp2.lst.stor, hd2.sl.stor]
      exact hK hg _ _ _ ((x1.trans x5).trans x6) (hd2.sl.mono x6) (hp2.mono x6)
end
end Go.Proofs.Ytnfhccioglpjhaa.Vm
