/- Package card over the machine: Merge, Meet, Relation. -/
import Derived.Test.YtlkoedoannjojaaMeA
namespace Go.Proofs.Ytlkoedoannjojaa.Vm
open Go
set_option maxRecDepth 100000
set_option linter.unusedSimpArgs false
set_option linter.unusedVariables false
attribute [-simp] List.getD_eq_getElem?_getD
section
variable {α : Type} {k n : Nat} {c : Cod α k} {H : Hp} {v : V} {l : List α}
/-- append of a whole list, be it empty; other rows stand -/
theorem OwnT.appendG (h : OwnT n c H v l) {lim bytes : Nat} {y : V} {m : List α} (hy : LstV c H y m) (hn : lim ≤ n ∧ n ≤ H.length) (hb : bytes ≤ 1000) (hl : l.length + m.length ≤ 1000000) :
    ∃ v' H', vappend lim k bytes H v y = some (v', H') ∧ OwnT n c H' v' (l ++ m) ∧ (∀ H0, HX H0 H → H0.length ≤ n → HX H0 H') ∧ n ≤ H'.length ∧ ∀ b', b' < H.length → (∀ o z y, v ≠ .sl b' o z y) → H'[b']? = H[b']? := by
  have hb1 : (l.length + m.length) * bytes ≤ 1000000 * 1000 := Nat.mul_le_mul hl hb
  by_cases hm : 0 < m.length
  · obtain ⟨v', H', a1, a2, a3, a4, a5, a6⟩ := h.appendL (lim := lim) (bytes := bytes) hy HX.refl hn hb hl hm
    exact ⟨v', H', a1, a2, a3, a4, a6⟩
  · have hm : m = [] := List.eq_nil_of_length_eq_zero (by omega)
    subst hm
    cases h with
    | nil =>
      refine ⟨.snil, H, ?_, by rw [List.append_nil]; exact .nil, fun H0 h0 _ => h0, by omega, fun _ _ _ => rfl⟩
      simp [vappend, hy.cells, hy.len]
    | row h1 h2 =>
      rename_i b
      have hbl := (List.getElem?_eq_some_iff.1 h2).1
      refine ⟨.sl H.length 0 l.length k, H.set b .dead ++ [.row (c.all l) true], ?_, ?_, fun H0 h0 hk0 => ?_, by simp; omega, fun b' hb' hne => ?_⟩
      · simp [vappend, hy.cells, hy.len, h2, Cod.all_len, show lim ≤ b by omega, show l.length * bytes ≤ 140737488355328 by simp at hb1; omega, show l.length < 4611686018427387904 by simp at hl; omega, Cod.all_nil]
      · rw [List.append_nil]
        refine .row (by omega) ?_
        have e : H.length = (H.set b .dead).length := by simp
        rw [e]; exact List.getElem?_concat_length
      · obtain ⟨X, rfl⟩ := h0
        refine HX.of (by simp; omega) fun i hi => ?_
        rw [List.getElem?_append_left (by simp; omega), List.getElem?_set_ne (by omega), List.getElem?_append_left hi]
      · rw [List.getElem?_append_left (by simpa using hb'), List.getElem?_set_ne (fun e => hne _ _ _ (by rw [e]))]
end
theorem filE_sort {c : List En} (h : valE c = 0) {g : Nat → Bool} : SortR cfE 0 (filE g c c.length).length (filE g c c.length) :=
  pw_sort (filE_pw fun i j h1 h2 _ _ => by
    rw [cfE_le]
    have o := val_ord h h2 (Nat.le_of_lt h1)
    by_cases e : (c.getD i default).p = (c.getD j default).p
    · have := val_lt h h1 h2 e; omega
    · omega)
def merE (a b : List En) : Int := if cmpE a b ≠ 0 then cmpE a b else if 60 < (bothL a b a.length).length + (firstL a b a.length).length + (firstL b a b.length).length then 4 else 0
def relP (a b : List En) : Int := if cmpE a b ≠ 0 then 0 else if 0 < (firstL a b a.length).length ∧ 0 < (firstL b a b.length).length then 3 else if 0 < (firstL a b a.length).length then 1 else if 0 < (firstL b a b.length).length then 2 else 0
def meetL (a b : List En) : List En := if cmpE a b = 0 then bothL a b a.length else []
theorem cmp_ok {a b : List En} (h : cmpE a b = 0) : valE a = 0 ∧ valE b = 0 ∧ ∀ i, i < a.length → okM a b i = true := by
  unfold cmpE at h
  split at h
  · rename_i h1; exact absurd h h1
  rename_i h1
  split at h
  · rename_i h2; exact absurd h h2
  rename_i h2
  split at h
  · cases h
  rename_i h3
  simp only [Bool.not_eq_false] at h3
  exact ⟨by simpa using h1, by simpa using h2, fun i hi => allN_at h3 hi⟩
section
variable {lim : Nat} {H : Hp} {K : V → Hp → Prop} {v w : V} {a b : List En} {x y z : Int}
theorem card_Meet (hc : LstV enC H v a) (hw : LstV enC H w b) (hsa : shortC a) (hsb : shortC b) (hlim : lim ≤ H.length)
    (hK : ∀ H' u, HX H H' → OwnT H.length enC H' u (meetL a b) → K (.tup [u, .int .i64 (cmpE a b)]) H') : VCall tbl lim 31 [v, w] H K := by
  refine VCall_fn tbl_at31 rfl ?_
  simp [vf31, hc.stor, hw.stor]
  refine card_compareG hc hw hsa hsb hlim (fun h H' hx => ?_) fun h H' p q r hx op oq or _ _ => ?_
  · have e : meetL a b = [] := if_neg h
    simp
    exact hK H' .snil hx (by rw [e]; exact .nil)
  · have e : meetL a b = bothL a b a.length := if_pos h
    rw [h, e] at hK
    simp [op.lst.stor, oq.lst.stor, or.lst.stor, op.lst.one, oq.lst.one, or.lst.one]
    exact hK H' p hx op
theorem card_RelationG (hc : LstV enC H v a) (hw : LstV enC H w b) (hsa : shortC a) (hsb : shortC b) (hlim : lim ≤ H.length)
    (hK : ∀ H', HX H H' → K (.tup [.int .i64 (relP a b), .int .i64 (cmpE a b)]) H') : VCall tbl lim 33 [v, w] H K := by
  refine VCall_fn tbl_at33 rfl ?_
  simp [vf33, hc.stor, hw.stor]
  refine card_compareG hc hw hsa hsb hlim (fun h H' hx => ?_) fun h H' p q r hx op oq or _ _ => ?_
  · have e : relP a b = 0 := if_pos h
    simp [eq_false h]
    have := hK H' hx
    rwa [e] at this
  · have hK := hK H' hx
    rw [h] at hK
    unfold relP at hK
    rw [if_neg (by rw [h]; simp)] at hK
    by_cases h1 : 0 < (firstL a b a.length).length
    · by_cases h2 : 0 < (firstL b a b.length).length
      · rw [if_pos ⟨h1, h2⟩] at hK
        simp [op.lst.stor, oq.lst.stor, or.lst.stor, op.lst.one, oq.lst.one, or.lst.one, oq.lst.len, or.lst.len, h1, h2]
        exact hK
      · rw [if_neg (by omega), if_pos h1] at hK
        simp [op.lst.stor, oq.lst.stor, or.lst.stor, op.lst.one, oq.lst.one, or.lst.one, oq.lst.len, or.lst.len, h1, h2]
        exact hK
    · by_cases h2 : 0 < (firstL b a b.length).length
      · rw [if_neg (by omega), if_neg h1, if_pos h2] at hK
        simp [op.lst.stor, oq.lst.stor, or.lst.stor, op.lst.one, oq.lst.one, or.lst.one, oq.lst.len, or.lst.len, h1, h2]
        exact hK
      · rw [if_neg (by omega), if_neg h1, if_neg h2] at hK
        simp [op.lst.stor, oq.lst.stor, or.lst.stor, op.lst.one, oq.lst.one, or.lst.one, oq.lst.len, or.lst.len, h1, h2]
        exact hK
theorem card_Merge (hc : LstV enC H v a) (hw : LstV enC H w b) (hsa : shortC a) (hsb : shortC b) (hlim : lim ≤ H.length)
    (hno : merE a b ≠ 0 → ∀ H', HX H H' → K (.tup [.snil, .int .i64 (merE a b)]) H')
    (hK : merE a b = 0 → ∀ H' u l, HX H H' → OwnT H.length enC H' u l → l.Perm (bothL a b a.length ++ (firstL a b a.length ++ firstL b a b.length)) → SortR cfE 0 l.length l → K (.tup [u, .int .i64 0]) H') : VCall tbl lim 29 [v, w] H K := by
  refine VCall_fn tbl_at29 rfl ?_
  simp [vf29, hc.stor, hw.stor]
  refine card_compareG hc hw hsa hsb hlim (fun h H' hx => ?_) fun h H' p q r hx op oq or hap hrq => ?_
  · have e : merE a b = cmpE a b := if_pos h
    simp [eq_false h]
    have := hno (by rw [e]; exact h) H' hx
    rwa [e] at this
  obtain ⟨hva, hvb, hok⟩ := cmp_ok h
  have hl := valE_small hva
  have hlb := valE_small hvb
  have n1 : (bothL a b a.length).length ≤ a.length := filE_len
  have n2 : (firstL a b a.length).length ≤ a.length := filE_len
  have n3 : (firstL b a b.length).length ≤ b.length := filE_len
  have lx := hx.len
  by_cases h60 : 60 < (bothL a b a.length).length + (firstL a b a.length).length + (firstL b a b.length).length
  · have e : merE a b = 4 := by simp [merE, h, h60]
    simp (disch := omega) [op.lst.stor, oq.lst.stor, or.lst.stor, op.lst.one, oq.lst.one, or.lst.one, op.lst.len, oq.lst.len, or.lst.len, wrap_i64, show (60 : Int) < (bothL a b a.length).length + (firstL a b a.length).length + (firstL b a b.length).length by omega]
    have := hno (by rw [e]; decide) H' hx
    rwa [e] at this
  have e : merE a b = 0 := by simp [merE, h, h60]
  have hK := hK e
  obtain ⟨u, H1, a1, a2, a3, a4, a5⟩ := oq.appendG (lim := lim) (bytes := 56) or.lst ⟨hlim, lx⟩ (by omega) (by omega)
  simp (disch := omega) [op.lst.stor, oq.lst.stor, or.lst.stor, op.lst.one, oq.lst.one, or.lst.one, op.lst.len, oq.lst.len, or.lst.len, wrap_i64, show ¬ (60 : Int) < (bothL a b a.length).length + (firstL a b a.length).length + (firstL b a b.length).length by omega, a1, a2.lst.len]
  have bp := op.below
  have op1 : OwnT H.length enC H1 p (bothL a b a.length) := op.keepB fun b o m z e => a5 b (bp _ _ _ _ e) fun o' z' y' e' => hap _ _ _ _ _ _ _ _ e e' rfl
  have hx1 := a3 H hx (Nat.le_refl _)
  have hsb2 : SortR cfE 0 (bothL a b a.length).length (bothL a b a.length) := filE_sort hva
  generalize hM : firstL a b a.length ++ firstL b a b.length = M at *
  have hMe : M.length = (firstL a b a.length).length + (firstL b a b.length).length := by rw [← hM]; simp
  have hMl : M.length ≤ 120 := by rw [← hM]; simp; omega
  refine wLoop_up M.length (fun i fr L H' => ∃ t lt, (fr 34 = u ∧ fr 35 = .int .i64 M.length ∧ fr 36 = .int .i64 i ∧ fr 6 = t) ∧ HX H1 H' ∧ HX H H' ∧ OwnT H.length enC H' t lt ∧ lt.Perm (bothL a b a.length ++ M.take i) ∧ SortR cfE 0 lt.length lt) ⟨p, _, by simp [a2.lst.len]; omega, HX.refl, hx1, op1, by simp, hsb2⟩ ?_
  rintro i hi fr L H2 ⟨t, lt, ⟨f34, f35, f36, f6⟩, hx2, hx02, ot, hp2, hs2⟩
  simp [f34, f35, f36, f6]
  refine cond_dec (fun ht => ?_) fun hfl => ?_
  · have ht : i < M.length := by omega
    have om := a2.lst.mono hx2
    have l2 := hx02.len
    have hlt : lt.length ≤ 200 := by rw [hp2.length_eq]; simp; omega
    simp (disch := omega) [f34, f35, f36, f6, om.at ht, en_load om, lastO, lastS, ot.lst.stor]
    refine card_put (e := M.getD i default) ot.lst (by omega) (by omega) fun H3 t3 l3 x3 o3 hp3 hs3 => ?_
    simp (disch := omega) [f34, f35, f36, f6, wrap_i64]
    refine ⟨ht, hx2.trans x3, hx02.trans x3, l3, o3.le l2, ?_, hs3⟩
    rw [List.take_succ_eq_append_getElem ht, ← getD_of ht, ← List.append_assoc]
    exact hp3.trans (hp2.append_right _)
  have : i = M.length := by omega
  subst this
  rw [List.take_length] at hp2
  simp [f6, ot.lst.stor]
  exact hK H2 t lt hx02 ot hp2 hs2
end
end Go.Proofs.Ytlkoedoannjojaa.Vm
