/- Fields: a list of edges that one more is put into (pure, and the document put); places. -/
import Derived.Test.YtnfhccioglpjhaaFlF
import Derived.Test.YtnfhccioglpjhaaVmRec
namespace Go.Proofs.Ytnfhccioglpjhaa.Vm
open Go
set_option maxRecDepth 100000
set_option linter.unusedSimpArgs false
set_option linter.unusedVariables false
attribute [-simp] List.getD_eq_getElem?_getD
theorem bef_irr {a : Ed} : ¬ bef a a := by unfold bef; omega
theorem bef_asym {a b : Ed} (h : bef a b) : ¬ bef b a := by unfold bef at *; omega
theorem bef_tot {a b : Ed} (h : a ≠ b) : bef a b ∨ bef b a := by
  cases a; cases b
  rename_i x y u x' y' u'
  have : ¬ (x = x' ∧ y = y' ∧ u = u') := fun hh => h (by rw [hh.1, hh.2.1, hh.2.2])
  unfold bef
  simp only
  omega
/-- the one ascending list with these members -/
theorem ed_uniq : ∀ {A B : List Ed}, A.Pairwise bef → B.Pairwise bef → (∀ e, e ∈ A ↔ e ∈ B) → A = B
  | [], [], _, _, _ => rfl
  | [], b :: B, _, _, h => by have := (h b).2 (List.mem_cons_self ..); simp at this
  | a :: A, [], _, _, h => by have := (h a).1 (List.mem_cons_self ..); simp at this
  | a :: A, b :: B, hA, hB, h => by
    obtain ⟨a1, a2⟩ := List.pairwise_cons.1 hA
    obtain ⟨b1, b2⟩ := List.pairwise_cons.1 hB
    have e : a = b := by
      apply Classical.byContradiction
      intro hne
      have h1 : a ∈ B := by
        rcases List.mem_cons.1 ((h a).1 (List.mem_cons_self ..)) with h1 | h1
        · exact absurd h1 hne
        · exact h1
      have h2 : b ∈ A := by
        rcases List.mem_cons.1 ((h b).2 (List.mem_cons_self ..)) with h2 | h2
        · exact absurd h2.symm hne
        · exact h2
      exact bef_asym (b1 a h1) (a1 b h2)
    subst e
    rw [ed_uniq a2 b2 fun e => ?_]
    constructor
    · intro he
      rcases List.mem_cons.1 ((h e).1 (List.mem_cons_of_mem _ he)) with h1 | h1
      · subst h1; exact absurd (a1 e he) bef_irr
      · exact h1
    · intro he
      rcases List.mem_cons.1 ((h e).2 (List.mem_cons_of_mem _ he)) with h1 | h1
      · subst h1; exact absurd (b1 e he) bef_irr
      · exact h1
/-- an edge is put into an ascending list -/
def befB (a b : Ed) : Bool := decide (a.x < b.x) || (decide (a.x = b.x) && (decide (a.y < b.y) || (decide (a.y = b.y) && decide (a.u < b.u))))
theorem befB_iff {a b : Ed} : befB a b = true ↔ bef a b := by simp [befB, bef]
def putL : List Ed → Ed → List Ed
  | [], e => [e]
  | a :: l, e => if befB e a = true then e :: a :: l else a :: putL l e
theorem putL_mem {e x : Ed} : ∀ {l : List Ed}, x ∈ putL l e ↔ x = e ∨ x ∈ l
  | [] => by simp [putL]
  | a :: l => by
    have ih := putL_mem (e := e) (x := x) (l := l)
    unfold putL
    split
    · simp
    · simp only [List.mem_cons, ih]
      constructor
      · rintro (h | h | h)
        · exact Or.inr (Or.inl h)
        · exact Or.inl h
        · exact Or.inr (Or.inr h)
      · rintro (h | h | h)
        · exact Or.inr (Or.inl h)
        · exact Or.inl h
        · exact Or.inr (Or.inr h)
theorem bef_trans3 {a b c : Ed} (h : bef a b) (h2 : bef b c) : bef a c := by unfold bef at *; omega
theorem putL_asc {e : Ed} : ∀ {l : List Ed}, l.Pairwise bef → e ∉ l → (putL l e).Pairwise bef
  | [], _, _ => List.pairwise_singleton _ _
  | a :: l, h, hn => by
    obtain ⟨h1, h2⟩ := List.pairwise_cons.1 h
    have hne : e ≠ a := fun hh => hn (by rw [hh]; exact List.mem_cons_self ..)
    unfold putL
    split
    · rename_i hb
      have hb := befB_iff.1 hb
      refine List.pairwise_cons.2 ⟨fun x hx => ?_, h⟩
      rcases List.mem_cons.1 hx with hx | hx
      · rw [hx]; exact hb
      · exact bef_trans3 hb (h1 x hx)
    · rename_i hb
      have hae : bef a e := by
        rcases bef_tot hne with h3 | h3
        · exact absurd (befB_iff.2 h3) hb
        · exact h3
      refine List.pairwise_cons.2 ⟨fun x hx => ?_, putL_asc h2 fun hh => hn (List.mem_cons_of_mem _ hh)⟩
      rcases putL_mem.1 hx with hx | hx
      · rw [hx]; exact hae
      · exact h1 x hx
section
variable {lim : Nat} {H : Hp} {K : V → Hp → Prop} {v d p : V} {D : List Int} {P : List Ed} {W Q x y u k : Int} {w q : Nat}
theorem vapp_e {y : V} {l : List Int} (hy : SlV H y l) (hlim : lim ≤ H.length) (hl : l.length ≤ 1000) : ∃ v' H', vappend lim 1 8 (H ++ [.row [] true]) (.sl H.length 0 0 1) y = some (v', H') ∧ OwnV H.length H' v' l ∧ HX H H' := by
  have hy2 := hy.mono (H' := H ++ [.row [] true]) HX.push
  refine ⟨.sl (H.length + 1) 0 l.length 1, (H ++ [Blk.row [] true]).set H.length .dead ++ [.row (ints l) true], ?_, .row (by omega) ?_, ?_⟩
  · simp [vappend, hy2.cells, hy2.len, hlim, show l.length * 8 ≤ 140737488355328 by omega, show l.length < 4611686018427387904 by omega]
  · have : H.length + 1 = ((H ++ [Blk.row [] true]).set H.length .dead).length := by simp
    rw [this]; exact List.getElem?_concat_length
  · refine HX.of (by simp <;> omega) fun i hi => ?_
    rw [List.getElem?_append_left (by simp; omega), List.getElem?_set_ne (by omega), List.getElem?_append_left hi]
theorem vapp_t {α : Type} {k : Nat} {c : Cod α k} {y : V} {l : List α} {bytes : Nat} (hy : LstV c H y l) (hlim : lim ≤ H.length) (hl : l.length ≤ 1000) (hb : bytes ≤ 1000) : ∃ v' H', vappend lim k bytes (H ++ [.row [] true]) (.sl H.length 0 0 k) y = some (v', H') ∧ OwnT H.length c H' v' l ∧ HX H H' := by
  have hy2 := hy.mono (H' := H ++ [.row [] true]) HX.push
  have hm : l.length * bytes ≤ 1000 * 1000 := Nat.mul_le_mul hl hb
  refine ⟨.sl (H.length + 1) 0 l.length k, (H ++ [Blk.row [] true]).set H.length .dead ++ [.row (c.all l) true], ?_, .row (by omega) ?_, ?_⟩
  · simp [vappend, hy2.cells, hy2.len, hlim, show l.length * bytes ≤ 140737488355328 by omega, show l.length < 4611686018427387904 by omega]
  · have : H.length + 1 = ((H ++ [Blk.row [] true]).set H.length .dead).length := by simp
    rw [this]; exact List.getElem?_concat_length
  · refine HX.of (by simp <;> omega) fun i hi => ?_
    rw [List.getElem?_append_left (by simp; omega), List.getElem?_set_ne (by omega), List.getElem?_append_left hi]
theorem clone_ints {l : List Int} (hv : SlV H v l) (hlim : lim ≤ H.length) (hl : l.length ≤ 1000) (hK : ∀ H' v', HX H H' → OwnV H.length H' v' l → K v' H') : VCall tbl lim 36 [v] H K := by
  refine VCall_fn tbl_at36 rfl ?_
  obtain ⟨v', H', a1, a2, a3⟩ := vapp_e (lim := lim) hv hlim hl
  cases hv with
  | nil =>
    simp [vf36]
    exact hK _ _ .refl .nil
  | empty =>
    simp [vf36, a1, a2.sl.stor]
    exact hK _ _ a3 a2
  | sl h1 h2 h3 =>
    simp [vf36, a1, a2.sl.stor]
    exact hK _ _ a3 a2
theorem clone_eds {l : List Ed} (hv : LstV edC H v l) (hlim : lim ≤ H.length) (hl : l.length ≤ 1000) (hK : ∀ H' v', HX H H' → OwnT H.length edC H' v' l → K v' H') : VCall tbl lim 37 [v] H K := by
  refine VCall_fn tbl_at37 rfl ?_
  obtain ⟨v', H', a1, a2, a3⟩ := vapp_t (lim := lim) (bytes := 24) hv hlim hl (by omega)
  cases hv with
  | nil =>
    simp [vf37]
    exact hK _ _ .refl .nil
  | empty =>
    simp [vf37, a1, a2.lst.stor]
    exact hK _ _ a3 a2
  | sl h1 h2 h3 =>
    simp [vf37, a1, a2.lst.stor]
    exact hK _ _ a3 a2
theorem flow_clone (hd : SlV H d D) (hp : EdV H p P) (hlim : lim ≤ H.length) (hl : D.length ≤ 1000 ∧ P.length ≤ 1000) (hK : ∀ H1 H' d' p', HX H H1 → HX H1 H' → OwnV H.length H1 d' D → OwnV H.length H' d' D → OwnT H1.length edC H' p' P → K (.agg [.int .i64 W, .int .i64 Q, d', p']) H') : VCall tbl lim 17 [.agg [.int .i64 W, .int .i64 Q, d, p]] H K := by
  refine VCall_fn tbl_at17 rfl ?_
  simp [vf17, hd.stor, hp.stor]
  refine clone_ints hd hlim hl.1 fun H1 d' x1 o1 => ?_
  replace x1 : HX H H1 := x1
  have l1 := x1.len
  simp [o1.sl.stor, o1.sl.one, hp.stor]
  refine clone_eds (hp.lst.mono x1) (by omega) hl.2 fun H2 p' x2 o2 => ?_
  simp [o1.sl.stor, o1.sl.one, o2.lst.stor, o2.lst.one]
  exact hK _ _ _ _ x1 x2 o1 (o1.mono x2) o2
end
section
variable {lim : Nat} {H : Hp} {K : V → Hp → Prop} {v d p d' p' : V} {D D' : List Int} {P P' : List Ed} {W Q x y u k : Int} {w q : Nat}
theorem flow_checkedE (hd : SlV H d D) (hp : EdV H p P) (hW : I64 W) (hQ : I64 Q) (hl : D.length ≤ 1000 ∧ P.length ≤ 1000) (hlim : lim ≤ H.length)
    (hbad : validP W Q D P ≠ 0 → ∀ H', HX H H' → K (.tup [.agg [.int .i64 0, .int .i64 0, .snil, .snil], .int .i64 (validP W Q D P)]) H')
    (hK : validP W Q D P = 0 → ∀ H', HX H H' → K (.tup [.agg [.int .i64 W, .int .i64 Q, d, p], .int .i64 0]) H') : VCall tbl lim 18 [.agg [.int .i64 W, .int .i64 Q, d, p]] H K := by
  refine VCall_fn tbl_at18 rfl ?_
  simp [vf18, hd.stor, hp.stor]
  refine flow_Validate hd hp hW hQ ⟨by omega, by omega⟩ hlim fun H1 x1 => ?_
  simp
  refine cond_ndec (fun h => ?_) fun h => ?_
  · simp; exact hbad h _ x1
  · simp [h, hd.stor, hp.stor]; exact hK h _ x1
theorem ref_resultE (hd : SlV H d D) (hp : EdV H p P) (hW : I64 W) (hQ : I64 Q) (hl : D.length ≤ 1000 ∧ P.length ≤ 1000) (hlim : lim ≤ H.length)
    (hbad : validP W Q D P ≠ 0 → ∀ H', HX H H' → K (.tup [.agg [.int .i64 0, .int .i64 0, .snil, .snil], .int .i64 (validP W Q D P)]) H')
    (hK : validP W Q D P = 0 → ∀ H', HX H H' → K (.tup [.agg [.int .i64 W, .int .i64 Q, d, p], .int .i64 0]) H') : VCall tbl lim 22 [.agg [.int .i64 W, .int .i64 Q, d, p]] H K := by
  refine VCall_fn tbl_at22 rfl ?_
  simp [vf22, hd.stor, hp.stor]
  refine ref_Validate hd hp hW hQ ⟨by omega, by omega⟩ hlim fun H1 x1 => ?_
  simp
  refine cond_ndec (fun h => ?_) fun h => ?_
  · simp; exact hbad h _ x1
  · simp [h, hd.stor, hp.stor]; exact hK h _ x1
end
section
variable {lim : Nat} {H : Hp} {K : V → Hp → Prop} {v d p d' p' : V} {D D' : List Int} {P P' : List Ed} {W Q x y w h : Int}
theorem ref_isPlace (hd : Vm.stor d = true) (hp : Vm.stor p = true) (hW : 1 ≤ W ∧ W ≤ 12) (hQ : 1 ≤ Q ∧ Q ≤ 12) (hK : K (.bool (decide (0 ≤ x ∧ x < W ∧ 0 ≤ y ∧ y < Q))) H) : VCall tbl lim 20 [.agg [.int .i64 W, .int .i64 Q, d, p], .int .i64 x, .int .i64 y] H K := by
  refine VCall_fn tbl_at20 rfl ?_
  simp (disch := omega) [vf20, hd, hp, wrap_i64]
  refine ref_within ?_
  by_cases h1 : 0 ≤ x ∧ x ≤ W - 1
  · simp (disch := omega) [h1, wrap_i64]
    refine ref_within ?_
    have e : decide (0 ≤ x ∧ x < W ∧ 0 ≤ y ∧ y < Q) = decide (0 ≤ y ∧ y ≤ Q - 1) := by simp only [decide_eq_decide]; omega
    rw [e] at hK
    simpa using hK
  · have e : decide (0 ≤ x ∧ x < W ∧ 0 ≤ y ∧ y < Q) = false := by simp only [decide_eq_false_iff_not]; omega
    rw [e] at hK
    simp [h1]
    simpa using hK
end
set_option maxHeartbeats 1000000
def pst (e : Ed) (s : List Ed × Bool) (a : Ed) : List Ed × Bool := if s.2 = false ∧ befB e a = true then (s.1 ++ [e] ++ [a], true) else (s.1 ++ [a], s.2)
def pfin (e : Ed) (s : List Ed × Bool) : List Ed := if s.2 = true then s.1 else s.1 ++ [e]
theorem pst_fin {e : Ed} : ∀ {l : List Ed} {s : List Ed × Bool}, pfin e (l.foldl (pst e) s) = if s.2 = true then s.1 ++ l else s.1 ++ putL l e
  | [], (O, true) => by simp [pfin, putL]
  | [], (O, false) => by simp [pfin, putL]
  | a :: l, (O, true) => by
    have ih := pst_fin (e := e) (l := l) (s := (O ++ [a], true))
    simp only [List.foldl_cons, pst, Bool.true_eq_false, false_and, if_false, ih]
    simp
  | a :: l, (O, false) => by
    by_cases h : befB e a = true
    · have ih := pst_fin (e := e) (l := l) (s := (O ++ [e] ++ [a], true))
      simp only [List.foldl_cons, pst, true_and, h, if_true, ih, putL]
      simp
    · have ih := pst_fin (e := e) (l := l) (s := (O ++ [a], false))
      have h : befB e a = false := by simpa using h
      simp only [List.foldl_cons, pst, true_and, h, Bool.false_eq_true, and_false, if_false, ih, putL]
      simp
def pstN (e : Ed) (l : List Ed) (i : Nat) : List Ed × Bool := (l.take i).foldl (pst e) ([], false)
theorem pstN_succ {e : Ed} {l : List Ed} {i : Nat} (h : i < l.length) : pstN e l (i + 1) = pst e (pstN e l i) (l.getD i default) := by
  unfold pstN
  rw [List.take_add_one, List.getElem?_eq_getElem h, List.getD_eq_getElem?_getD, List.getElem?_eq_getElem h, List.foldl_append]; rfl
theorem pstN_end {e : Ed} {l : List Ed} : pfin e (pstN e l l.length) = putL l e := by
  unfold pstN
  rw [List.take_length, pst_fin]; simp
theorem pst_len {e : Ed} {s : List Ed × Bool} {a : Ed} : (pst e s a).1.length ≤ s.1.length + 2 := by unfold pst; split <;> simp
theorem pstN_len {e : Ed} {l : List Ed} : ∀ {i : Nat}, i ≤ l.length → (pstN e l i).1.length ≤ 2 * i
  | 0, _ => by simp [pstN]
  | i + 1, h => by
    have ih := pstN_len (e := e) (l := l) (i := i) (by omega)
    rw [pstN_succ (by omega)]
    have := pst_len (e := e) (s := pstN e l i) (a := l.getD i default)
    omega
theorem rd3w {a b c : V} : rd (some 3) [a, b, c] 0 = some (.agg [a, b, c]) := Eq.trans rfl rfl
theorem rd3x0 {a b c : V} : rd none [a, b, c] 0 = some a := Eq.trans rfl rfl
theorem rd3x1 {a b c : V} : rd none [a, b, c] 1 = some b := Eq.trans rfl rfl
theorem rd3x2 {a b c : V} : rd none [a, b, c] 2 = some c := Eq.trans rfl rfl
theorem iz3x : ints (zs 3) = [.int .i64 0, .int .i64 0, .int .i64 0] := Eq.trans rfl rfl
section
variable {lim : Nat} {H : Hp} {K : V → Hp → Prop} {v d p : V} {D : List Int} {P : List Ed} {W Q x y u : Int} {w q : Nat} {e a : Ed} {l : List Ed}
theorem ref_beforeB (hK : K (.bool (befB e a)) H) : VCall tbl lim 38 [.agg [.int .i64 e.x, .int .i64 e.y, .int .i64 e.u], .agg [.int .i64 a.x, .int .i64 a.y, .int .i64 a.u]] H K := by
  refine VCall_fn tbl_at38 rfl ?_
  by_cases h1 : e.x = a.x
  · by_cases h2 : e.y = a.y
    · have : befB e a = decide (e.u < a.u) := by unfold befB; rw [h1, h2]; simp
      rw [this] at hK
      simp [vf38, rd3x0, rd3x1, rd3x2, h1, h2]
      exact hK
    · have : befB e a = decide (e.y < a.y) := by unfold befB; rw [h1]; simp [h2]
      rw [this] at hK
      simp [vf38, rd3x0, rd3x1, rd3x2, h1, h2]
      exact hK
  · have : befB e a = decide (e.x < a.x) := by unfold befB; simp [h1]
    rw [this] at hK
    simp [vf38, rd3x0, rd3x1, rd3x2, h1]
    exact hK
theorem ref_put (hv : LstV edC H v l) (hl : l.length ≤ 1000) (hlim : lim ≤ H.length) (hK : ∀ H' v', HX H H' → OwnT H.length edC H' v' (putL l e) → K v' H') : VCall tbl lim 30 [v, .agg [.int .i64 e.x, .int .i64 e.y, .int .i64 e.u]] H K := by
  refine VCall_fn tbl_at30 rfl ?_
  simp [vf30]
  refine wLoop_up l.length (fun i fr L H' => ∃ q, (fr 0 = v ∧ fr 3 = .lp 0 0 ∧ fr 5 = q ∧ fr 6 = .bool (pstN e l i).2 ∧ fr 7 = .int .i64 i) ∧ L[0]? = some [.int .i64 e.x, .int .i64 e.y, .int .i64 e.u] ∧ HX H H' ∧ OwnT H.length edC H' q (pstN e l i).1) ⟨.snil, by simp [pstN], rfl, HX.refl, .nil⟩ ?_
  rintro i hi fr L H1 ⟨q, ⟨f0, f3, f5, f6, f7⟩, l0, x1, hq⟩
  have l1 := x1.len
  have hv1 := hv.mono x1
  simp [f0, f3, f5, f6, f7, hv.len]
  refine cond_dec (fun ht => ?_) fun hfl => ?_
  · have ht : i < l.length := by omega
    have hsl := pstN_len (e := e) (l := l) (i := i) (by omega)
    have hst : ∀ {H2 : Hp} {q2 : V} {C : List Ed} (b : Ed), HX H H2 → OwnT H.length edC H2 q2 C → C.length ≤ 3000 → ∃ v' H3, vappend lim 3 24 (H2 ++ [.row [.int .i64 b.x, .int .i64 b.y, .int .i64 b.u] true]) q2 (.sl H2.length 0 1 3) = some (v', H3) ∧ OwnT H.length edC H3 v' (C ++ [b]) ∧ HX H H3 := fun {H2 q2 C} b hx hq hl => by
      have := hx.len
      obtain ⟨v', H3, a1, a2, a3, a4, a5, a6⟩ := hq.append (lim := lim) (bytes := 24) (x := b) (cs := [.int .i64 b.x, .int .i64 b.y, .int .i64 b.u]) rfl ⟨by omega, by omega⟩ (by omega) (by omega)
      exact ⟨v', H3, a1, a2, a3 _ hx (Nat.le_refl _)⟩
    have ld : ∀ H2, HX H H2 → ∀ L, vload (some 3) L H2 (ept 3 v i) = some (.agg [.int .i64 (l.getD i default).x, .int .i64 (l.getD i default).y, .int .i64 (l.getD i default).u]) := fun H2 hx L => (hv.mono hx).load ht
    have ad := hv.at ht
    have hsucc := pstN_succ (e := e) ht
    rw [hsucc]
    generalize l.getD i default = a at *
    generalize pstN e l i = s at *
    obtain ⟨O, dn⟩ := s
    simp only at f6 hq hsl
    cases dn with
    | true =>
      obtain ⟨v', H3, a1, a2, a3⟩ := hst a x1 hq (by omega)
      have e1 : pst e (O, true) a = (O ++ [a], true) := by simp [pst]
      rw [e1]
      simp (disch := omega) [f0, f3, f5, f6, f7, l0, ad, ld H1 x1, lpId_ept, rd3w, vbslice_some, splice, iz3x, a1, wrap_i64]
      exact ⟨by omega, a3, a2⟩
    | false =>
      simp (disch := omega) [f0, f3, f5, f6, f7, l0, ad, ld H1 x1, lpId_ept, rd3w]
      refine ref_beforeB (e := e) (a := a) ?_
      cases hb : befB e a with
      | true =>
        have e1 : pst e (O, false) a = (O ++ [e] ++ [a], true) := by simp [pst, hb]
        rw [e1]
        obtain ⟨v', H3, a1, a2, a3⟩ := hst e x1 hq (by omega)
        obtain ⟨v2, H4, b1, b2, b3⟩ := hst a a3 a2 (by simp; omega)
        simp (disch := omega) [f0, f3, f5, f6, f7, l0, ad, ld H3 a3, lpId_ept, rd3w, vbslice_some, splice, iz3x, a1, b1, wrap_i64]
        refine ⟨by omega, b3, ?_⟩
        simpa using b2
      | false =>
        have e1 : pst e (O, false) a = (O ++ [a], false) := by simp [pst, hb]
        rw [e1]
        obtain ⟨v', H3, a1, a2, a3⟩ := hst a x1 hq (by omega)
        simp (disch := omega) [f0, f3, f5, f6, f7, l0, ad, ld H1 x1, lpId_ept, rd3w, vbslice_some, splice, iz3x, a1, wrap_i64]
        exact ⟨by omega, a3, a2⟩
  · have hil : i = l.length := by omega
    subst hil
    have hfin := pstN_end (e := e) (l := l)
    have hsl := pstN_len (e := e) (l := l) (i := l.length) (Nat.le_refl _)
    generalize pstN e l l.length = s at *
    obtain ⟨O, dn⟩ := s
    simp only at f6 hq hsl
    cases dn with
    | true =>
      have e1 : O = putL l e := by rw [← hfin]; simp [pfin]
      rw [e1] at hq
      have := hK H1 q x1 hq
      simp [f5, f6, hq.lst.stor]
      exact this
    | false =>
      have e1 : O ++ [e] = putL l e := by rw [← hfin]; simp [pfin]
      obtain ⟨v', H3, a1, a2, a3, a4, a5, a6⟩ := hq.append (lim := lim) (bytes := 24) (x := e) (cs := [.int .i64 e.x, .int .i64 e.y, .int .i64 e.u]) rfl ⟨by omega, by omega⟩ (by omega) (by omega)
      rw [e1] at a2
      have := hK H3 v' (a3 _ x1 (Nat.le_refl _)) a2
      simp [f3, f5, f6, l0, rd3w, vbslice_some, splice, iz3x, a1, a2.lst.stor]
      exact this
end
set_option maxHeartbeats 1000000
section
variable {lim : Nat} {H : Hp} {K : V → Hp → Prop} {v d p d' p' : V} {D D' : List Int} {P P' : List Ed} {W Q x y u k : Int} {w q : Nat}
theorem ref_CopyO (hd : SlV H d D) (hp : EdV H p P) (hl : D.length ≤ 1000 ∧ P.length ≤ 1000) (hlim : lim ≤ H.length) (hK : ∀ H1 H' d' p', HX H H1 → HX H1 H' → OwnV H.length H1 d' D → OwnV H.length H' d' D → OwnT H1.length edC H' p' P → K (.agg [.int .i64 W, .int .i64 Q, d', p']) H') : VCall tbl lim 6 [.agg [.int .i64 W, .int .i64 Q, d, p]] H K := by
  refine VCall_fn tbl_at6 rfl ?_
  simp [vf6, hd.stor, hp.stor]
  refine ref01_CopyInts hd (Nat.le_refl _) hl.1 fun H1 d1 x1 o1 => ?_
  replace x1 : HX H H1 := x1
  have l1 := x1.len
  simp [o1.sl.stor, o1.sl.one]
  refine wLoop_up P.length (fun i fr L H' => ∃ v, (fr 1 = .lp 0 0 ∧ fr 2 = .lp 1 0 ∧ fr 3 = .lp 2 0 ∧ fr 4 = .int .i64 i) ∧ L = [[.int .i64 W, .int .i64 Q, d, p], [.int .i64 0, .int .i64 0, .snil, .snil], [.int .i64 W, .int .i64 Q, d1, v]] ∧ HX H1 H' ∧ OwnT H1.length edC H' v (P.take i)) ⟨.snil, by simp, by simp, .refl, .nil⟩ ?_
  rintro i hi fr L H2 ⟨v, ⟨f1, f2, f3, f4⟩, rfl, hx, hv⟩
  have hp2 := hp.mono (x1.trans hx)
  simp [f1, f2, f3, f4, hp.len]
  refine cond_dec (fun ht => ?_) fun hfl => ?_
  · have ht : i < P.length := by omega
    obtain ⟨v', H3, a1, a2, a3, a4, a5, a6⟩ := hv.append (lim := lim) (bytes := 24) (x := P.getD i default) (cs := [.int .i64 (P.getD i default).x, .int .i64 (P.getD i default).y, .int .i64 (P.getD i default).u]) rfl ⟨by omega, hx.len⟩ (by omega) (by simp; omega)
    have e : P.take (i + 1) = P.take i ++ [P.getD i default] := by
      rw [List.take_add_one, List.getElem?_eq_getElem ht]; simp [List.getD_eq_getElem?_getD, ht]
    simp (disch := omega) [f1, f2, f3, f4, hp2.addr, hp2.load, splice33, a1, wrap_i64, a2.lst.stor, a2.lst.one]
    refine ⟨by omega, a3 _ hx (Nat.le_refl _), ?_⟩
    rw [e]; exact a2
  · have : i = P.length := by omega
    subst this
    simp [f1, f2, f3, f4, o1.sl.stor, hv.lst.stor]
    rw [List.take_length] at hv
    exact hK _ _ _ _ x1 hx o1 (o1.mono hx) hv
end
end Go.Proofs.Ytnfhccioglpjhaa.Vm
