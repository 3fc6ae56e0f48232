/- Package card over the machine: Add. -/
import Derived.Test.YtlkoedoannjojaaAdA
namespace Go.Proofs.Ytlkoedoannjojaa.Vm
open Go
set_option maxRecDepth 100000
set_option linter.unusedSimpArgs false
set_option linter.unusedVariables false
attribute [-simp] List.getD_eq_getElem?_getD
theorem filE_pw {R : En → En → Prop} {g : Nat → Bool} {c : List En} : ∀ {n : Nat}, (∀ i j, i < j → j < n → g i = true → g j = true → R (c.getD i default) (c.getD j default)) → (filE g c n).Pairwise R
  | 0, _ => List.Pairwise.nil
  | n + 1, h => by
    have ih := filE_pw (R := R) (g := g) (c := c) (n := n) fun i j h1 h2 h3 h4 => h i j h1 (by omega) h3 h4
    simp only [filE]
    by_cases hg : g n = true
    · rw [if_pos hg]
      refine List.pairwise_append.2 ⟨ih, List.pairwise_singleton _ _, fun x hx y hy => ?_⟩
      rw [List.mem_singleton.1 hy]
      obtain ⟨i, hi, rfl⟩ := mem_getD hx
      obtain ⟨j, j1, j2, j3⟩ := filE_mem hi
      rw [j3]; exact h j n j1 (by omega) j2 hg
    · rw [if_neg hg]; exact ih
theorem ofP_mem {c : List En} {q : Int} {x : En} (h : x ∈ ofP c q c.length) : x ∈ c ∧ x.p = q := by
  obtain ⟨i, hi, rfl⟩ := mem_getD h
  obtain ⟨j, j1, j2, j3⟩ := filE_mem hi
  unfold ofP
  rw [j3]
  exact ⟨getD_mem j1, by simpa using j2⟩
theorem pw_sort {l : List En} (h : l.Pairwise (leC cfE)) : SortR cfE 0 l.length l := fun p q _ h2 h3 => by
  have := List.pairwise_iff_getElem.1 h p q (by omega) h3 h2
  rw [getD_of (by omega), getD_of h3]; exact this
def adL (c : List En) (q : Int) (t : ByteArray) : Nat → List En
  | 0 => []
  | p + 1 => adL c q t p ++ (ofP c p c.length ++ if (p : Int) = q then [nextE c q t] else [])
theorem adL_mem {c : List En} {q : Int} {t : ByteArray} : ∀ {n : Nat} {x : En}, x ∈ adL c q t n → x.p < n
  | n + 1, x, h => by
    simp only [adL, List.mem_append] at h
    rcases h with h | h | h
    · have := adL_mem h; omega
    · have := (ofP_mem h).2; omega
    · split at h
      · rename_i e
        rw [List.mem_singleton.1 h]; simp only [nextE]; omega
      · cases h
theorem adL_sort {c : List En} (h : valE c = 0) {q : Int} {t : ByteArray} : ∀ {n : Nat}, (adL c q t n).Pairwise (leC cfE)
  | 0 => List.Pairwise.nil
  | n + 1 => by
    refine List.pairwise_append.2 ⟨adL_sort h, List.pairwise_append.2 ⟨filE_pw fun i j h1 h2 h3 h4 => ?_, ?_, fun x hx y hy => ?_⟩, fun x hx y hy => ?_⟩
    · rw [cfE_le]
      simp only [decide_eq_true_eq] at h3 h4
      have := val_lt h h1 h2 (by rw [h3, h4])
      omega
    · split
      · exact List.pairwise_singleton _ _
      · exact List.Pairwise.nil
    · split at hy
      · rename_i e
        rw [List.mem_singleton.1 hy, cfE_le]
        have hm := ofP_mem hx
        have hv := (val_mem h hm.1).2.1.2
        rw [hm.2, e] at hv
        simp only [nextE]
        omega
      · cases hy
    · have h1 := adL_mem hx
      rw [cfE_le]
      rcases List.mem_append.1 hy with hy | hy
      · have := (ofP_mem hy).2; omega
      · split at hy
        · rw [List.mem_singleton.1 hy]; simp only [nextE]; omega
        · cases hy
theorem adL_perm {c : List En} (h : valE c = 0) {q : Int} (hq : 0 ≤ q ∧ q ≤ 2) {t : ByteArray} : (adL c q t 3).Perm (c ++ [nextE c q t]) := by
  have hp := ofP_perm (c := c) (fun i hi => val_pl h hi) (Nat.le_refl _)
  rw [List.take_length] at hp
  refine List.Perm.trans ?_ (hp.append_right _)
  simp only [adL, List.nil_append]
  have e0 : ((0 : Nat) : Int) = 0 := rfl
  have e1 : ((1 : Nat) : Int) = 1 := rfl
  have e2 : ((2 : Nat) : Int) = 2 := rfl
  rw [e0, e1, e2]
  generalize ofP c 0 c.length = A
  generalize ofP c 1 c.length = B
  generalize ofP c 2 c.length = C
  generalize nextE c q t = x
  rcases (show q = 0 ∨ q = 1 ∨ q = 2 by omega) with rfl | rfl | rfl
  · simp only [if_true, if_neg (show ¬ (1 : Int) = 0 by omega), if_neg (show ¬ (2 : Int) = 0 by omega), List.append_nil, List.append_assoc]
    refine List.Perm.append_left A ?_
    exact (List.perm_append_comm (l₁ := [x]) (l₂ := B ++ C)).trans (by rw [List.append_assoc])
  · simp only [if_true, if_neg (show ¬ (0 : Int) = 1 by omega), if_neg (show ¬ (2 : Int) = 1 by omega), List.append_nil, List.append_assoc]
    refine List.Perm.append_left A (List.Perm.append_left B ?_)
    exact List.perm_append_comm (l₁ := [x]) (l₂ := C)
  · simp only [if_true, if_neg (show ¬ (0 : Int) = 2 by omega), if_neg (show ¬ (1 : Int) = 2 by omega), List.append_nil, List.append_assoc]
    exact List.Perm.refl _
def addE (c : List En) (q : Int) (t : ByteArray) : Int := if valE c ≠ 0 then valE c else if (decide (0 ≤ q ∧ q ≤ 2) && rightB t) = false then 1 else if 60 ≤ c.length then 4 else 0
def addL (c : List En) (q : Int) (t : ByteArray) : List En := if addE c q t = 0 then adL c q t 3 else []
theorem add_ok {c : List En} {q : Int} {t : ByteArray} (h : addE c q t = 0) : valE c = 0 ∧ (0 ≤ q ∧ q ≤ 2) ∧ rightB t = true ∧ c.length < 60 := by
  unfold addE at h
  split at h
  · rename_i h1; exact absurd h h1
  rename_i h1
  split at h
  · cases h
  rename_i h2
  split at h
  · cases h
  rename_i h3
  simp only [Bool.not_eq_false, Bool.and_eq_true, decide_eq_true_eq] at h2
  exact ⟨by simpa using h1, h2.1, h2.2, by omega⟩
theorem add_val {c : List En} {q : Int} {t : ByteArray} (h : addE c q t = 0) : valE (addL c q t) = 0 := by
  obtain ⟨h1, h2, h3, h4⟩ := add_ok h
  unfold addL
  rw [if_pos h]
  exact val_add h1 h4 h2 h3 (adL_perm h1 h2) (pw_sort (adL_sort h1))
theorem add_uniq {c l : List En} {q : Int} {t : ByteArray} (h : addE c q t = 0) (hp : l.Perm (c ++ [nextE c q t])) (hs : SortR cfE 0 l.length l) : l = addL c q t := by
  obtain ⟨h1, h2, h3, h4⟩ := add_ok h
  unfold addL
  rw [if_pos h]
  have hq := adL_perm h1 h2 (t := t)
  exact sort_uniq (hp.trans hq.symm) ((add_dist h1).perm hq) (pw_sort (adL_sort h1)) hs
section
variable {α : Type} {k n : Nat} {c : Cod α k} {H : Hp} {v : V} {l : List α}
/-- append of a whole list, be it empty -/
theorem OwnT.appendA (h : OwnT n c H v l) {lim bytes : Nat} {y : V} {m : List α} {H1 : Hp} (hy : LstV c H1 y m) (hx : HX H H1) (hn : lim ≤ n ∧ n ≤ H.length) (hb : bytes ≤ 1000) (hl : l.length + m.length ≤ 1000000) :
    ∃ v' H', vappend lim k bytes H1 v y = some (v', H') ∧ OwnT n c H' v' (l ++ m) ∧ (∀ H0, HX H0 H → H0.length ≤ n → HX H0 H') ∧ n ≤ H'.length := by
  have hb1 : (l.length + m.length) * bytes ≤ 1000000 * 1000 := Nat.mul_le_mul hl hb
  have hlen := hx.len
  by_cases hm : 0 < m.length
  · obtain ⟨v', H', a1, a2, a3, a4, _⟩ := h.appendL (lim := lim) (bytes := bytes) hy hx hn hb hl hm
    exact ⟨v', H', a1, a2, a3, a4⟩
  · have hm : m = [] := List.eq_nil_of_length_eq_zero (by omega)
    subst hm
    cases h with
    | nil =>
      refine ⟨.snil, H1, ?_, by rw [List.append_nil]; exact .nil, fun H0 h0 _ => h0.trans hx, by omega⟩
      simp [vappend, hy.cells, hy.len]
    | row h1 h2 =>
      rename_i b
      have hbl := (List.getElem?_eq_some_iff.1 h2).1
      refine ⟨.sl H1.length 0 l.length k, H1.set b .dead ++ [.row (c.all l) true], ?_, ?_, fun H0 h0 hk0 => ?_, by simp; omega⟩
      · simp [vappend, hy.cells, hy.len, hx.get h2, Cod.all_len, show lim ≤ b by omega, show l.length * bytes ≤ 140737488355328 by simp at hb1; omega, show l.length < 4611686018427387904 by simp at hl; omega, Cod.all_nil]
      · rw [List.append_nil]
        refine .row (by omega) ?_
        have e : H1.length = (H1.set b .dead).length := by simp
        rw [e]; exact List.getElem?_concat_length
      · obtain ⟨X, rfl⟩ := h0.trans hx
        refine HX.of (by simp; omega) fun i hi => ?_
        rw [List.getElem?_append_left (by simp; omega), List.getElem?_set_ne (by omega), List.getElem?_append_left hi]
end
section
variable {lim : Nat} {H : Hp} {K : V → Hp → Prop} {v w : V} {c l : List En} {e f : En} {x y u q : Int} {t : ByteArray}
theorem ref_of (hc : LstV enC H v c) (hl : c.length ≤ 1000) (hlim : lim ≤ H.length) (hK : ∀ H' w, HX H H' → OwnT H.length enC H' w (ofP c q c.length) → K w H') : VCall tbl lim 49 [v, .int .i64 q] H K := by
  refine VCall_fn tbl_at49 rfl ?_
  simp [vf49]
  refine wLoop_up c.length (fun i fr L H' => (fr 0 = v ∧ fr 1 = .int .i64 q ∧ fr 6 = .int .i64 i) ∧ (∃ u, fr 5 = u ∧ OwnT H.length enC H' u (ofP c q i)) ∧ HX H H') ⟨by simp, ⟨.snil, by simp, .nil⟩, HX.refl⟩ ?_
  rintro i hi fr L H' ⟨⟨f0, f1, f6⟩, ⟨u, f5, hu⟩, hx⟩
  simp [f0, f1, f6, hc.len]
  refine cond_dec (fun ht => ?_) fun hfl => ?_
  · have ht : i < c.length := by omega
    have hc' := hc.mono hx
    have hxl := hx.len
    have hfl : (ofP c q i).length ≤ i := filE_len
    have st : ofP c q (i + 1) = if (c.getD i default).p = q then ofP c q i ++ [c.getD i default] else ofP c q i := by
      simp only [ofP, filE]
      by_cases e : (c.getD i default).p = q <;> simp [e]
    obtain ⟨v', H3, b1, b2, b3, b4, b5, b6⟩ := hu.append (lim := lim) (bytes := 56) (x := c.getD i default) (cs := [.int .i64 (c.getD i default).p, .int .i64 (c.getD i default).s, .int .i64 (c.getD i default).a, .int .i64 (c.getD i default).b, .int .i64 (c.getD i default).c, .str (c.getD i default).t]) rfl ⟨hlim, hxl⟩ (by omega) (by omega)
    by_cases e : (c.getD i default).p = q
    · rw [if_pos e] at st
      simp (disch := omega) [f0, f1, f6, f5, hc'.at ht, hc'.faddr ht, en_get hc' ht, eq_true e, en_load hc', vbslice_some, b1, wrap_i64, st]
      exact ⟨by omega, b2, b3 _ hx (Nat.le_refl _)⟩
    · rw [if_neg e] at st
      simp (disch := omega) [f0, f1, f6, f5, hc'.at ht, hc'.faddr ht, en_get hc' ht, eq_false e, wrap_i64, st]
      exact ⟨by omega, hu, hx⟩
  have : i = c.length := by omega
  subst this
  simp [f5, hu.lst.stor]
  exact hK _ _ hx hu
theorem card_Add (hc : LstV enC H v c) (hsh : shortC c) (ht : t.size ≤ 200) (hlim : lim ≤ H.length) (hK : ∀ H' w, HX H H' → OwnT H.length enC H' w (addL c q t) → K (.tup [w, .int .i64 (addE c q t)]) H') : VCall tbl lim 18 [v, .int .i64 q, .str t] H K := by
  refine VCall_fn tbl_at18 rfl ?_
  simp [vf18, hc.stor]
  refine card_Validate hc hsh fun H1 x1 => ?_
  have hc1 := hc.mono x1
  have l1 := x1.len
  simp
  have hno : ∀ n : Int, addE c q t = n → n ≠ 0 → ∀ H2, HX H1 H2 → K (.tup [.snil, .int .i64 n]) H2 := fun n e hn H2 x2 => by
    have e2 : addL c q t = [] := by unfold addL; rw [e, if_neg hn]
    have := hK H2 .snil (x1.trans x2) (by rw [e2]; exact .nil)
    rwa [e] at this
  by_cases h : valE c = 0
  · have hl := valE_small h
    simp [h]
    refine card_isPlace ?_
    by_cases h2 : 0 ≤ q ∧ q ≤ 2
    · simp [h2]
      refine card_isRight (by omega) fun H2 x2 => ?_
      have hc2 := hc1.mono x2
      have l2 := x2.len
      cases h3 : rightB t
      · simp
        exact hno 1 (by simp [addE, h, h3]) (by omega) _ x2
      by_cases h4 : c.length = 60
      · simp [hc2.len, h4]
        exact hno 4 (by simp [addE, h, h2, h3, h4]) (by omega) _ x2
      · have e0 : addE c q t = 0 := by
          simp only [addE, h, ne_eq, not_true_eq_false, if_false, h2, h3, and_self, decide_true, Bool.and_self, Bool.true_eq_false]
          rw [if_neg (by omega)]
        simp [hc2.len, eq_false (show ¬ (c.length : Int) = 60 by omega), h4, hc2.stor]
        refine card_clock hc2 hl (fun i hi => val_pl h hi) ?_
        have r1 := cnt_rd (c := c) (i := c.length) h2
        have hle := @cntE_le c q c.length
        simp (disch := omega) [cnt_sp, cnt_w, cnt_len, r1, wrap_i64, hc2.stor]
        simp [splice, cntsL, hc2.stor]
        refine card_put (e := nextE c q t) hc2 (Nat.le_refl _) (by omega) fun H3 w l' x3 o3 hp3 hs3 => ?_
        rw [add_uniq e0 hp3 hs3] at o3
        have o3 := o3.le (n := H.length) (by omega)
        simp [o3.lst.stor]
        rw [e0] at hK
        exact hK _ _ (x1.trans (x2.trans x3)) o3
    · simp [eq_false h2]
      exact hno 1 (by simp [addE, h, eq_false h2]) (by omega) _ HX.refl
  · simp [eq_false h]
    exact hno _ (by simp [addE, h]) h _ HX.refl
theorem ref_Add (hc : LstV enC H v c) (hsh : shortC c) (ht : t.size ≤ 200) (hlim : lim ≤ H.length) (hK : ∀ H' w, HX H H' → OwnT H.length enC H' w (addL c q t) → K (.tup [w, .int .i64 (addE c q t)]) H') : VCall tbl lim 19 [v, .int .i64 q, .str t] H K := by
  refine VCall_fn tbl_at19 rfl ?_
  simp [vf19, hc.stor]
  refine ref_Validate hc hsh ?_
  simp
  have hno : ∀ n : Int, addE c q t = n → n ≠ 0 → K (.tup [.snil, .int .i64 n]) H := fun n e hn => by
    have e2 : addL c q t = [] := by unfold addL; rw [e, if_neg hn]
    have := hK H .snil HX.refl (by rw [e2]; exact .nil)
    rwa [e] at this
  by_cases h : valE c = 0
  · have hl := valE_small h
    by_cases h1 : q < 0
    · simp [h, h1]
      exact hno 1 (by simp [addE, h]; omega) (by omega)
    by_cases h2 : 2 < q
    · simp [h, h1, h2]
      exact hno 1 (by simp [addE, h]; omega) (by omega)
    have hq : 0 ≤ q ∧ q ≤ 2 := by omega
    simp [h, h1, h2]
    refine ref_Right (by omega) ?_
    cases h3 : rightB t
    · simp
      exact hno 1 (by simp [addE, h, h3]) (by omega)
    by_cases h4 : c.length = 60
    · simp [hc.len, h4]
      exact hno 4 (by simp [addE, h, hq, h3, h4]) (by omega)
    have e0 : addE c q t = 0 := by
      simp only [addE, h, ne_eq, not_true_eq_false, if_false, hq, h3, and_self, decide_true, Bool.and_self, Bool.true_eq_false]
      rw [if_neg (by omega)]
    have eL : addL c q t = adL c q t 3 := if_pos e0
    rw [e0, eL] at hK
    simp [hc.len, show ¬ (60 : Int) ≤ c.length by omega, show ¬ 60 ≤ c.length by omega]
    have hcnt : ∀ p, (ofP c p c.length).length ≤ c.length := fun p => filE_len
    have hal : ∀ n, (adL c q t n).length ≤ n * 61 := fun n => by
      induction n with
      | zero => simp [adL]
      | succ n ih =>
        have := hcnt n
        simp only [adL, List.length_append]
        have : (if (n : Int) = q then [nextE c q t] else []).length ≤ 1 := by split <;> simp
        omega
    refine wLoop_up 3 (fun i fr L H' => (fr 0 = v ∧ fr 1 = .int .i64 q ∧ fr 2 = .str t ∧ fr 10 = .int .i64 i) ∧ (∃ u, fr 9 = u ∧ OwnT H.length enC H' u (adL c q t i)) ∧ HX H H') ⟨by simp, ⟨.snil, by simp, .nil⟩, HX.refl⟩ ?_
    rintro i hi fr L H1 ⟨⟨f0, f1, f2, f10⟩, ⟨u, f9, hu⟩, hx⟩
    simp [f0, f1, f2, f10]
    refine cond_dec (fun ht3 => ?_) fun hfl => ?_
    · have hc1 := hc.mono hx
      have l1 := hx.len
      have ai := hal i
      simp (disch := omega) [f0, f1, f2, f10, hc.stor]
      refine ref_of hc1 (by omega) (by omega) fun H2 w2 x2 o2 => ?_
      replace x2 : HX H1 H2 := x2
      have l2 := x2.len
      have hcp := hcnt i
      obtain ⟨v3, H3, b1, b2, b3, b4⟩ := hu.appendA (lim := lim) (bytes := 56) o2.lst x2 ⟨hlim, l1⟩ (by omega) (by omega)
      have x3 := b3 H hx (Nat.le_refl _)
      have hc3 := hc.mono x3
      by_cases e : (i : Int) = q
      · have hst : adL c q t (i + 1) = (adL c q t i ++ ofP c i c.length) ++ [nextE c q t] := by
          simp only [adL, if_pos e, List.append_assoc]
        have r1 := cnt_rd (c := c) (i := c.length) hq
        have hle := @cntE_le c q c.length
        simp (disch := omega) [f0, f1, f2, f10, f9, b1, eq_true e, b2.lst.stor, hc.stor]
        refine ref_clock hc3 hl (fun i hi => val_pl h hi) ?_
        have ei : q.toNat = i := by omega
        rw [ei] at r1
        simp (disch := omega) [f0, f1, f2, f10, f9, b1, eq_true e, b2.lst.stor, hc.stor, r1, wrap_i64]
        refine ref_clock hc3 hl (fun i hi => val_pl h hi) ?_
        have l3 := x3.len
        obtain ⟨v4, H4, d1, d2, d3, d4, d5, d6⟩ := b2.append (lim := lim) (bytes := 56) (x := nextE c q t) (cs := [.int .i64 i, .int .i64 (cntE c q c.length + 1), .int .i64 (cntE c 0 c.length), .int .i64 (cntE c 1 c.length), .int .i64 (cntE c 2 c.length), .str t]) (by show (nextE c q t).cells = _; simp [En.cells, nextE, e]) ⟨hlim, l3⟩ (by omega) (by simp; omega)
        simp (disch := omega) [f0, f1, f2, f10, f9, b1, eq_true e, b2.lst.stor, hc.stor, r1, wrap_i64, splice, cntsL, vbslice_some, d1, hst]
        exact ⟨by omega, by rw [← List.append_assoc]; exact d2, d3 _ x3 (Nat.le_refl _)⟩
      · have hst : adL c q t (i + 1) = adL c q t i ++ ofP c i c.length := by
          simp only [adL, if_neg e, List.append_nil]
        simp (disch := omega) [f0, f1, f2, f10, f9, b1, eq_false e, wrap_i64, hst]
        exact ⟨by omega, b2, x3⟩
    have : i = 3 := by omega
    subst this
    simp [f9, hu.lst.stor]
    exact hK _ _ hx hu
  · simp [eq_false h]
    exact hno _ (by simp [addE, h]) h
end
end Go.Proofs.Ytlkoedoannjojaa.Vm
