/- Walks along paths, pure: back, in two parts, around. -/
import Derived.Test.YtjchpgkibhdoiaaDoorFwA
namespace Go.Proofs.YtjchpgkibhdoiaaDoor.Vm
open Go
set_option maxRecDepth 100000
set_option linter.unusedSimpArgs false
set_option linter.unusedVariables false
attribute [-simp] List.getD_eq_getElem?_getD
theorem allN_ofx {f : Nat → Bool} : ∀ {n : Nat}, (∀ i, i < n → f i = true) → allN f n = true
  | 0, _ => rfl
  | n + 1, h => by
    have ih := allN_ofx (f := f) (n := n) fun i hi => h i (by omega)
    simp only [allN, ih, h n (by omega), Bool.and_self]
theorem getD_ofx {α : Type} [Inhabited α] {l : List α} {i : Nat} (h : i < l.length) : l.getD i default = l[i] := by
  rw [List.getD_eq_getElem?_getD, List.getElem?_eq_getElem h]; rfl
def sumT (f : Nat → Int) : Nat → Int
  | 0 => 0
  | n + 1 => sumT f n + f n
theorem sumT_congr {f g : Nat → Int} : ∀ {n : Nat}, (∀ i, i < n → f i = g i) → sumT f n = sumT g n
  | 0, _ => rfl
  | n + 1, h => by
    have ih := sumT_congr (f := f) (g := g) (n := n) fun i hi => h i (by omega)
    simp only [sumT, ih, h n (by omega)]
theorem sumT_add {f : Nat → Int} {k : Nat} : ∀ {m : Nat}, sumT f (k + m) = sumT f k + sumT (fun i => f (k + i)) m
  | 0 => by simp [sumT]
  | m + 1 => by
    have ih := sumT_add (f := f) (k := k) (m := m)
    rw [← Nat.add_assoc]
    simp only [sumT, ih]
    omega
theorem sumT_first {f : Nat → Int} : ∀ {n : Nat}, sumT f (n + 1) = f 0 + sumT (fun i => f (i + 1)) n
  | 0 => by simp [sumT]
  | n + 1 => by
    have ih := sumT_first (f := f) (n := n)
    rw [sumT, ih]
    simp only [sumT]
    omega
theorem sumT_back {f : Nat → Int} : ∀ {n : Nat}, sumT (fun i => f (n - 1 - i)) n = sumT f n
  | 0 => rfl
  | n + 1 => by
    have ih := sumT_back (f := f) (n := n)
    rw [sumT_first]
    have e : sumT (fun i => f (n + 1 - 1 - (i + 1))) n = sumT (fun i => f (n - 1 - i)) n := sumT_congr fun i hi => by congr 1; omega
    show f (n + 1 - 1 - 0) + sumT (fun i => f (n + 1 - 1 - (i + 1))) n = _
    rw [e, ih]
    simp only [sumT]
    have : n + 1 - 1 - 0 = n := by omega
    rw [this]
    omega
theorem sumT_neg {f : Nat → Int} : ∀ {n : Nat}, sumT (fun i => - f i) n = - sumT f n
  | 0 => rfl
  | n + 1 => by
    have ih := sumT_neg (f := f) (n := n)
    simp only [sumT, ih]
    omega
theorem wkS_some {w : Nat} {D : List Int} {P : List Ed} {l : List Pl} {t : Nat → Int} : ∀ {n : Nat}, (∀ i, i < n → stP w D P (l.getD i default) (l.getD (i + 1) default) = some (t i)) → wkS w D P l n = some (sumT t n)
  | 0, _ => rfl
  | n + 1, h => by
    have ih := wkS_some (n := n) fun i hi => h i (by omega)
    simp only [wkS, ih, h n (by omega), sumT]
theorem some_wkS {w : Nat} {D : List Int} {P : List Ed} {l : List Pl} : ∀ {n : Nat} {s : Int}, wkS w D P l n = some s → ∃ t : Nat → Int, (∀ i, i < n → stP w D P (l.getD i default) (l.getD (i + 1) default) = some (t i)) ∧ s = sumT t n
  | 0, s, h => by cases h; exact ⟨fun _ => 0, fun i hi => by omega, rfl⟩
  | n + 1, s, h => by
    simp only [wkS] at h
    split at h
    · rename_i s' t' h1 h2
      cases h
      obtain ⟨t, a, b⟩ := some_wkS h1
      refine ⟨fun i => if i = n then t' else t i, fun i hi => ?_, ?_⟩
      · by_cases e : i = n
        · subst e; simp only [if_true]; exact h2
        · simp only [e, if_false]; exact a i (by omega)
      · simp only [sumT, if_true]
        rw [b]
        congr 1
        exact sumT_congr fun i hi => by rw [if_neg (by omega)]
    · cases h
theorem stP_rev {w : Nat} {D : List Int} {P : List Ed} {a b : Pl} {t : Int} (h : stP w D P a b = some t) : stP w D P b a = some (-t) := by
  unfold stP at h ⊢
  split at h
  · rename_i e s he
    have hb : stE b a = some (e, -s) := by
      unfold stE at he
      repeat' (split at he)
      all_goals first
        | (cases he; done)
        | (simp only [Option.some.injEq, Prod.mk.injEq] at he
           obtain ⟨rfl, rfl⟩ := he
           unfold stE
           first
            | (rw [if_pos (by omega)] <;> rfl)
            | (rw [if_neg (by omega), if_pos (by omega)] <;> rfl)
            | (rw [if_neg (by omega), if_neg (by omega), if_pos (by omega)] <;> rfl)
            | (rw [if_neg (by omega), if_neg (by omega), if_neg (by omega), if_pos (by omega)] <;> rfl))
    cases h
    rw [hb]
    simp only [Option.some.injEq]
    rw [Int.neg_mul]
  · cases h
theorem rev_getD {l : List Pl} {i : Nat} (h : i < l.length) : l.reverse.getD i default = l.getD (l.length - 1 - i) default := by
  rw [getD_ofx (by simpa using h), getD_ofx (by omega), List.getElem_reverse]
theorem wkP_ok {W Q : Int} {D : List Int} {P : List Ed} {l : List Pl} (h : (wkP W Q D P l).2 = 0) : validP W Q D P = 0 ∧ l.length ≤ 1000 ∧ allN (inOk W Q l) l.length = true ∧ wkS W.toNat D P l (l.length - 1) = some (wkP W Q D P l).1 := by
  unfold wkP at h ⊢
  split at h
  · rename_i h1
    rw [if_pos h1]
    split at h
    · simp at h
    · rename_i h2
      rw [if_neg h2]
      split at h
      · simp at h
      · rename_i h3
        rw [if_neg h3]
        split at h
        · rename_i s hs
          exact ⟨h1, by omega, by simpa using h3, by rw [hs]⟩
        · simp at h
  · rename_i h1
    exact absurd h h1
theorem ok_wkP {W Q : Int} {D : List Int} {P : List Ed} {l : List Pl} {s : Int} (h1 : validP W Q D P = 0) (h2 : l.length ≤ 1000) (h3 : allN (inOk W Q l) l.length = true) (h4 : wkS W.toNat D P l (l.length - 1) = some s) : wkP W Q D P l = (s, 0) := by
  unfold wkP
  rw [if_pos h1, if_neg (by omega), if_neg (by rw [h3]; simp)]
  simp only [h4]
theorem wkP_err {W Q : Int} {D : List Int} {P : List Ed} {l : List Pl} (h : (wkP W Q D P l).2 ≠ 0) : (wkP W Q D P l).1 = 0 := by
  unfold wkP at h ⊢
  split at h
  · rename_i h1
    rw [if_pos h1]
    split at h
    · rename_i h2; rw [if_pos h2]
    · rename_i h2
      rw [if_neg h2]
      split at h
      · rename_i h3; rw [if_pos h3]
      · rename_i h3
        rw [if_neg h3]
        split at h
        · simp at h
        · rfl
  · rename_i h1
    rw [if_neg h1]
theorem wkP_nil {W Q : Int} {D : List Int} {P : List Ed} : (wkP W Q D P []).1 = 0 := by
  by_cases h : (wkP W Q D P []).2 = 0
  · obtain ⟨_, _, _, h4⟩ := wkP_ok h
    simpa [wkS] using h4.symm
  · exact wkP_err h
/-- the way back turns as much the other way -/
theorem wk_rev {W Q : Int} {D : List Int} {P : List Ed} {l : List Pl} (h : (wkP W Q D P l).2 = 0) : wkP W Q D P l.reverse = (-(wkP W Q D P l).1, 0) := by
  obtain ⟨h1, h2, h3, h4⟩ := wkP_ok h
  obtain ⟨t, a, b⟩ := some_wkS h4
  refine ok_wkP h1 (by simpa using h2) (allN_ofx fun i hi => ?_) ?_
  · have hi : i < l.length := by simpa using hi
    have := allN_at h3 (i := l.length - 1 - i) (by omega)
    simpa only [inOk, rev_getD hi] using this
  · have e : sumT (fun i => - t (l.length - 1 - 1 - i)) (l.length - 1) = -(wkP W Q D P l).1 := by
      rw [sumT_neg (f := fun i => t (l.length - 1 - 1 - i)), sumT_back, b]
    rw [← e, List.length_reverse]
    refine wkS_some fun i hi => ?_
    rw [rev_getD (by omega), rev_getD (by omega)]
    have := stP_rev (a (l.length - 1 - 1 - i) (by omega))
    rw [show l.length - 1 - 1 - i + 1 = l.length - 1 - i by omega] at this
    rw [show l.length - 1 - (i + 1) = l.length - 1 - 1 - i by omega]
    exact this
theorem drop_getD {l : List Pl} {k i : Nat} : (l.drop k).getD i default = l.getD (k + i) default := by
  simp only [List.getD_eq_getElem?_getD, List.getElem?_drop]
theorem take_getD {l : List Pl} {k i : Nat} (h : i < k) : (l.take k).getD i default = l.getD i default := by
  simp only [List.getD_eq_getElem?_getD, List.getElem?_take, if_pos h]
/-- a path in two parts -/
theorem wk_cut {W Q : Int} {D : List Int} {P : List Ed} {l : List Pl} {k : Nat} (h : (wkP W Q D P l).2 = 0) (hk : k < l.length) : ∃ a b, wkP W Q D P (l.take (k + 1)) = (a, 0) ∧ wkP W Q D P (l.drop k) = (b, 0) ∧ a + b = (wkP W Q D P l).1 := by
  obtain ⟨h1, h2, h3, h4⟩ := wkP_ok h
  obtain ⟨t, a, b⟩ := some_wkS h4
  have hl1 : (l.take (k + 1)).length = k + 1 := by simp; omega
  have hl2 : (l.drop k).length = l.length - k := by simp
  have q1 : wkP W Q D P (l.take (k + 1)) = (sumT t k, 0) := by
    refine ok_wkP h1 (by omega) (allN_ofx fun i hi => ?_) ?_
    · have := allN_at h3 (i := i) (by omega)
      simpa only [inOk, take_getD (show i < k + 1 by omega)] using this
    · rw [hl1]
      refine wkS_some fun i hi => ?_
      rw [take_getD (by omega), take_getD (by omega)]
      exact a i (by omega)
  have q2 : wkP W Q D P (l.drop k) = (sumT (fun i => t (k + i)) (l.length - 1 - k), 0) := by
    refine ok_wkP h1 (by omega) (allN_ofx fun i hi => ?_) ?_
    · have := allN_at h3 (i := k + i) (by omega)
      simpa only [inOk, drop_getD] using this
    · rw [hl2, show l.length - k - 1 = l.length - 1 - k by omega]
      refine wkS_some fun i hi => ?_
      rw [drop_getD, drop_getD]
      exact a (k + i) (by omega)
  refine ⟨_, _, q1, q2, ?_⟩
  rw [b, ← sumT_add]
  congr 1; omega
def dirAt (w : Nat) (D : List Int) (a : Pl) : Int := D.getD (a.y * w + a.x).toNat 0
theorem nrm_mod {n : Int} : ∃ k, nrm n = n + 8 * k := by
  unfold nrm
  exact ⟨-((n + 3) / 8), by omega⟩
theorem stP_mod {w : Nat} {D : List Int} {P : List Ed} {a b : Pl} {t : Int} (h : stP w D P a b = some t) : ∃ k, t = dirAt w D b - dirAt w D a + 4 * k := by
  unfold stP at h
  split at h
  · rename_i e s he
    cases h
    obtain ⟨k, hk⟩ := nrm_mod (n := dlt w D e.x e.y e.u + 4 * cntE P e.x e.y e.u P.length)
    have ht : tnP w D P e.x e.y e.u = dlt w D e.x e.y e.u + 4 * (cntE P e.x e.y e.u P.length + 2 * k) := by
      unfold tnP; rw [hk]; omega
    generalize cntE P e.x e.y e.u P.length + 2 * k = m at ht
    have hd : dlt w D e.x e.y e.u = s * (dirAt w D b - dirAt w D a) ∧ (s = 1 ∨ s = -1) := by
      unfold stE at he
      repeat' (split at he)
      all_goals first
        | (cases he; done)
        | (rename_i hc
           simp only [Option.some.injEq, Prod.mk.injEq] at he
           obtain ⟨rfl, rfl⟩ := he
           obtain ⟨c1, c2⟩ := hc
           refine ⟨?_, by simp⟩
           first
             | (have ex : b.x = a.x + 1 := by omega
                have ey : b.y = a.y := by omega
                simp only [dlt, dirAt, ex, ey, Int.one_mul, Int.add_assoc]
                rw [if_neg (by decide)]; done)
             | (have ex : b.x = a.x := by omega
                have ey : b.y = a.y + 1 := by omega
                have e2 : (a.y + 1) * (w : Int) + a.x = a.y * w + a.x + w := by rw [Int.add_mul, Int.one_mul]; omega
                simp only [dlt, dirAt, ex, ey, Int.one_mul, e2, if_true]; done)
             | (have ex : a.x = b.x + 1 := by omega
                have ey : a.y = b.y := by omega
                simp only [dlt, dirAt, ex, ey, Int.add_assoc]
                rw [if_neg (by decide)]; omega)
             | (have ex : a.x = b.x := by omega
                have ey : a.y = b.y + 1 := by omega
                have e2 : (b.y + 1) * (w : Int) + b.x = b.y * w + b.x + w := by rw [Int.add_mul, Int.one_mul]; omega
                simp only [dlt, dirAt, ex, ey, e2, if_true]; omega))
    obtain ⟨hd, hs⟩ := hd
    rw [ht, hd]
    rcases hs with rfl | rfl
    · exact ⟨m, by omega⟩
    · exact ⟨-m, by omega⟩
  · cases h
theorem sumT_mod {w : Nat} {D : List Int} {P : List Ed} {l : List Pl} {t : Nat → Int} : ∀ {n : Nat}, (∀ i, i < n → stP w D P (l.getD i default) (l.getD (i + 1) default) = some (t i)) → ∃ k, sumT t n = dirAt w D (l.getD n default) - dirAt w D (l.getD 0 default) + 4 * k
  | 0, _ => ⟨0, by simp only [sumT]; omega⟩
  | n + 1, h => by
    obtain ⟨k, hk⟩ := sumT_mod (n := n) fun i hi => h i (by omega)
    obtain ⟨m, hm⟩ := stP_mod (h n (by omega))
    exact ⟨k + m, by simp only [sumT]; omega⟩
/-- what a path that ends where it began turns -/
theorem wk_closed {W Q : Int} {D : List Int} {P : List Ed} {l : List Pl} (h : (wkP W Q D P l).2 = 0) (he : l.getD 0 default = l.getD (l.length - 1) default) : (wkP W Q D P l).1.tmod 4 = 0 := by
  obtain ⟨h1, h2, h3, h4⟩ := wkP_ok h
  obtain ⟨t, a, b⟩ := some_wkS h4
  obtain ⟨k, hk⟩ := sumT_mod a
  rw [b, hk, ← he]
  have : dirAt W.toNat D (l.getD 0 default) - dirAt W.toNat D (l.getD 0 default) + 4 * k = 4 * k := by omega
  rw [this]
  exact Int.mul_tmod_right 4 k
end Go.Proofs.YtjchpgkibhdoiaaDoor.Vm
