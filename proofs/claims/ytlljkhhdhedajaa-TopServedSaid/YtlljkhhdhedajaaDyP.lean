/- Gifts, pure: what can be given at most is the least bound of all sets of wants. -/
import Derived.Test.YtlljkhhdhedajaaSuP
namespace Go.Proofs.Ytlljkhhdhedajaa.Vm
open Go
set_option maxRecDepth 100000
set_option linter.unusedSimpArgs false
set_option linter.unusedVariables false
attribute [-simp] List.getD_eq_getElem?_getD
/-- lots and wants -/
structure Net where
  nl : Nat
  nw : Nat
  c : Nat → Int
  d : Nat → Int
  N : Nat → Nat → Bool
/-- what is left of the lots, and what each want was given of each lot -/
structure Fl where
  left : Nat → Int
  g : Nat → Nat → Int
structure FlOk (p : Net) (s : Fl) : Prop where
  lot : ∀ l, l < p.nl → 0 ≤ s.left l ∧ s.left l + su (fun w => s.g w l) p.nw = p.c l
  giv : ∀ w, w < p.nw → ∀ l, l < p.nl → 0 ≤ s.g w l ∧ (0 < s.g w l → p.N l w = true)
  out : ∀ w l, (p.nw ≤ w ∨ p.nl ≤ l) → s.g w l = 0
def gotF (p : Net) (s : Fl) (w : Nat) : Int := su (s.g w) p.nl
/-- wants that can't get more: all lots that they may have are given to such wants -/
structure ClsF (p : Net) (s : Fl) (S T : Nat → Prop) : Prop where
  near : ∀ w, w < p.nw → S w → ∀ l, l < p.nl → p.N l w = true → T l
  full : ∀ l, l < p.nl → T l → s.left l = 0 ∧ ∀ w, w < p.nw → 0 < s.g w l → S w
structure SameF (p : Net) (s s' : Fl) : Prop where
  left : ∀ l, l < p.nl → s'.left l = s.left l
  g : ∀ w l, s'.g w l = s.g w l
/-- what a want got by one search -/
structure GetR (p : Net) (s : Fl) (tr : Nat → Bool) (w0 : Nat) (m : Int) (s' : Fl) (tr' : Nat → Bool) (n : Int) : Prop where
  ok : FlOk p s'
  rng : 0 ≤ n ∧ n ≤ m
  mono : ∀ l, tr l = true → tr' l = true
  keep : ∀ l, l < p.nl → tr l = true → s'.left l = s.left l ∧ ∀ w, w < p.nw → s'.g w l = s.g w l
  same : n = 0 → SameF p s s'
  near : n = 0 → ∀ l, l < p.nl → p.N l w0 = true → tr' l = true
  full : n = 0 → ∀ l, l < p.nl → tr' l = true → tr l = false → s.left l = 0 ∧ ∀ w, w < p.nw → 0 < s.g w l → ∀ l', l' < p.nl → p.N l' w = true → tr' l' = true
  got : ∀ w, w < p.nw → gotF p s' w = gotF p s w + if w = w0 then n else 0
  cls : ∀ S T : Nat → Prop, ClsF p s S T → (S w0 → n = 0) ∧ ∀ l, l < p.nl → T l → s'.left l = s.left l ∧ ∀ w, w < p.nw → s'.g w l = s.g w l
/-- amid a search: the first k lots did not serve -/
structure LopI (p : Net) (s : Fl) (tr : Nat → Bool) (w0 k : Nat) (t : Nat → Bool) : Prop where
  mono : ∀ l, tr l = true → t l = true
  near : ∀ l, l < k → l < p.nl → p.N l w0 = true → t l = true
  full : ∀ l, l < p.nl → t l = true → tr l = false → s.left l = 0 ∧ ∀ w, w < p.nw → 0 < s.g w l → ∀ l', l' < p.nl → p.N l' w = true → t l' = true
/-- amid a lot: the first o wants give nothing back -/
structure InnI (p : Net) (s : Fl) (tr : Nat → Bool) (w0 k o : Nat) (t : Nat → Bool) : Prop where
  mono : ∀ l, tr l = true → t l = true
  near : ∀ l, l < k → l < p.nl → p.N l w0 = true → t l = true
  here : t k = true
  full : ∀ l, l < p.nl → l ≠ k → t l = true → tr l = false → s.left l = 0 ∧ ∀ w, w < p.nw → 0 < s.g w l → ∀ l', l' < p.nl → p.N l' w = true → t l' = true
  back : ∀ w, w < o → w < p.nw → 0 < s.g w k → ∀ l', l' < p.nl → p.N l' w = true → t l' = true
section
variable {p : Net} {s s' : Fl} {tr tr' t t' : Nat → Bool} {w0 k o : Nat} {m n : Int}
theorem SameF.refl : SameF p s s := ⟨fun _ _ => rfl, fun _ _ => rfl⟩
theorem FlOk.same (h : FlOk p s) (e : SameF p s s') : FlOk p s' :=
  ⟨fun l hl => by
    rw [e.left l hl, su_congr fun w hw => e.g w l]; exact h.lot l hl, fun w hw l hl => by rw [e.g w l]; exact h.giv w hw l hl, fun w l hl => by rw [e.g w l]; exact h.out w l hl⟩
theorem LopI.start : LopI p s tr w0 0 tr := ⟨fun _ h => h, fun l h => by omega, fun l _ h1 h2 => by rw [h1] at h2; cases h2⟩
theorem LopI.skip (h : LopI p s tr w0 k t) (hk : t k = true ∨ p.N k w0 = false) : LopI p s tr w0 (k + 1) t :=
  ⟨h.mono, fun l h1 h2 h3 => by
    by_cases e : l = k
    · subst e
      rcases hk with hk | hk
      · exact hk
      · rw [hk] at h3; cases h3
    · exact h.near l (by omega) h2 h3, h.full⟩
theorem LopI.enter (h : LopI p s tr w0 k t) (ht : ∀ l, t' l = true ↔ (l = k ∨ t l = true)) : InnI p s tr w0 k 0 t' :=
  ⟨fun l hl => (ht l).2 (Or.inr (h.mono l hl)), fun l h1 h2 h3 => (ht l).2 (Or.inr (h.near l h1 h2 h3)), (ht k).2 (Or.inl rfl), fun l h1 h2 h3 h4 => by
    have h5 : t l = true := by
      rcases (ht l).1 h3 with e | e
      · exact absurd e h2
      · exact e
    obtain ⟨q1, q2⟩ := h.full l h1 h5 h4
    exact ⟨q1, fun w hw hg l' hl' hn => (ht l').2 (Or.inr (q2 w hw hg l' hl' hn))⟩, fun w hw => by omega⟩
theorem InnI.skip (h : InnI p s tr w0 k o t) (hg : ¬ 0 < s.g o k) : InnI p s tr w0 k (o + 1) t :=
  ⟨h.mono, h.near, h.here, h.full, fun w h1 h2 h3 => by
    by_cases e : w = o
    · subst e; exact absurd h3 hg
    · exact h.back w (by omega) h2 h3⟩
theorem InnI.step (h : InnI p s tr w0 k o t) (hr : GetR p s t o m s' t' 0) : InnI p s tr w0 k (o + 1) t' := by
  refine ⟨fun l hl => hr.mono l (h.mono l hl), fun l h1 h2 h3 => hr.mono l (h.near l h1 h2 h3), hr.mono k h.here, fun l h1 h2 h3 h4 => ?_, fun w h1 h2 h3 l' hl' hn => ?_⟩
  · by_cases e : t l = true
    · obtain ⟨q1, q2⟩ := h.full l h1 h2 e h4
      exact ⟨q1, fun w hw hg l' hl' hn => hr.mono l' (q2 w hw hg l' hl' hn)⟩
    · exact hr.full rfl l h1 h3 (by simpa using e)
  · by_cases e : w = o
    · subst e; exact hr.near rfl l' hl' hn
    · exact hr.mono l' (h.back w (by omega) h2 h3 l' hl' hn)
theorem InnI.leave (h : InnI p s tr w0 k p.nw t) (hl : s.left k = 0) (hk : p.N k w0 = true → True) : LopI p s tr w0 (k + 1) t :=
  ⟨h.mono, fun l h1 h2 h3 => by
    by_cases e : l = k
    · subst e; exact h.here
    · exact h.near l (by omega) h2 h3, fun l h1 h2 h3 => by
    by_cases e : l = k
    · subst e; exact ⟨hl, fun w hw hg => h.back w hw hw hg⟩
    · exact h.full l h1 e h2 h3⟩
/-- no lot serves -/
theorem LopI.none (h : LopI p s tr w0 p.nl t) (hok : FlOk p s) (hm : 0 ≤ m) : GetR p s tr w0 m s t 0 :=
  ⟨hok, by omega, h.mono, fun l _ _ => ⟨rfl, fun _ _ => rfl⟩, fun _ => SameF.refl, fun _ l hl hn => h.near l hl hl hn, fun _ => h.full, fun w _ => by split <;> omega, fun S T hc => ⟨fun _ => rfl, fun l _ _ => ⟨rfl, fun _ _ => rfl⟩⟩⟩
/-- a lot that has something left -/
theorem LopI.free (h : LopI p s tr w0 k t) (hok : FlOk p s) (hw : w0 < p.nw) (hk : k < p.nl) (hN : p.N k w0 = true) (htk : t k = false) (hn : 0 < n ∧ n ≤ m ∧ n ≤ s.left k) (ht : ∀ l, t' l = true ↔ (l = k ∨ t l = true))
    (hl' : ∀ l, l < p.nl → s'.left l = if l = k then s.left l - n else s.left l) (hg' : ∀ w l, s'.g w l = if w = w0 ∧ l = k then s.g w l + n else s.g w l) : GetR p s tr w0 m s' t' n := by
  have trk : tr k = false := by
    cases e : tr k with
    | false => rfl
    | true => rw [h.mono k e] at htk; cases htk
  have hcol : ∀ l, l < p.nl → l ≠ k → s'.left l = s.left l ∧ ∀ w, w < p.nw → s'.g w l = s.g w l := fun l hl hne => ⟨by rw [hl' l hl, if_neg hne], fun w _ => by rw [hg', if_neg (fun e => hne e.2)]⟩
  refine ⟨⟨fun l hl => ?_, fun w hw2 l hl => ?_, fun w l ho => ?_⟩, by omega, fun l hl => (ht l).2 (Or.inr (h.mono l hl)), fun l hl htr => hcol l hl (fun e => by rw [e, trk] at htr; cases htr), fun e => by omega, fun e => by omega, fun e => by omega, fun w hw2 => ?_, fun S T hc => ?_⟩
  · obtain ⟨q1, q2⟩ := hok.lot l hl
    by_cases e : l = k
    · subst e
      have : su (fun w => s'.g w l) p.nw = su (fun w => s.g w l) p.nw + n := by
        rw [su_congr (g := fun w => if w = w0 then s.g w0 l + n else s.g w l) fun w _ => by
          rw [hg']
          by_cases e : w = w0
          · subst e; rw [if_pos ⟨rfl, rfl⟩, if_pos rfl]
          · rw [if_neg (fun q => e q.1), if_neg e], su_upd, if_pos hw]; omega
      rw [hl' l hl, if_pos rfl, this]; omega
    · rw [(hcol l hl e).1, su_congr fun w hw3 => (hcol l hl e).2 w hw3]; exact ⟨q1, q2⟩
  · obtain ⟨q1, q2⟩ := hok.giv w hw2 l hl
    rw [hg']
    split
    · rename_i e; obtain ⟨rfl, rfl⟩ := e; exact ⟨by omega, fun _ => hN⟩
    · exact ⟨q1, q2⟩
  · rw [hg', if_neg (by omega)]; exact hok.out w l ho
  · unfold gotF
    by_cases e : w = w0
    · subst e
      rw [if_pos rfl, su_congr (g := fun l => if l = k then s.g w k + n else s.g w l) fun l _ => by
        rw [hg']
        by_cases e : l = k
        · subst e; rw [if_pos ⟨rfl, rfl⟩, if_pos rfl]
        · rw [if_neg (fun q => e q.2), if_neg e], su_upd, if_pos hk]; omega
    · rw [if_neg e, su_congr (g := s.g w) fun l _ => by rw [hg', if_neg (fun q => e q.1)]]; omega
  · have hTk : ¬ T k := fun hT => by
      have := (hc.full k hk hT).1
      omega
    exact ⟨fun hS => absurd (hc.near w0 hw hS k hk hN) hTk, fun l hl hT => hcol l hl fun e => hTk (e ▸ hT)⟩
/-- a want that gives something back -/
theorem InnI.push (h : InnI p s tr w0 k o t) (hok : FlOk p s) (hw : w0 < p.nw) (ho : o < p.nw) (hk : k < p.nl) (hN : p.N k w0 = true) (htr : tr k = false) {b : Int} (hb : b ≤ m ∧ b ≤ s.g o k) (hr : GetR p s t o b s' t' n) (hn : 0 < n) {s2 : Fl}
    (hl2 : ∀ l, l < p.nl → s2.left l = s'.left l) (hg2 : ∀ w l, s2.g w l = s'.g w l + (if w = w0 ∧ l = k then n else 0) - (if w = o ∧ l = k then n else 0)) : GetR p s tr w0 m s2 t' n := by
  obtain ⟨kl, kg⟩ := hr.keep k hk h.here
  have hrn := hr.rng
  have hcol : ∀ l, l ≠ k → ∀ w, s2.g w l = s'.g w l := fun l hne w => by rw [hg2, if_neg (fun e => hne e.2), if_neg (fun e => hne e.2)]; omega
  refine ⟨⟨fun l hl => ?_, fun w hw2 l hl => ?_, fun w l hout => ?_⟩, by omega, fun l hl => hr.mono l (h.mono l hl), fun l hl ht => ?_, fun e => by omega, fun e => by omega, fun e => by omega, fun w hw2 => ?_, fun S T hc => ?_⟩
  · obtain ⟨q1, q2⟩ := hr.ok.lot l hl
    rw [hl2 l hl]
    refine ⟨q1, ?_⟩
    by_cases e : l = k
    · subst e
      have e1 : su (fun w => s2.g w l) p.nw = su (fun w => s'.g w l) p.nw := by
        have : ∀ w, s2.g w l = s'.g w l + ((if w = w0 then n else 0) + (if w = o then -n else 0)) := fun w => by
          rw [hg2]
          by_cases a1 : w = w0 <;> by_cases a2 : w = o <;> simp [a1, a2] <;> omega
        rw [su_congr fun w _ => this w, su_add, su_add]
        have z : ∀ (x : Int) (j : Nat), j < p.nw → su (fun w => if w = j then x else 0) p.nw = x := fun x j hj => by
          have := su_upd (f := fun _ => 0) (k := j) (x := x) (n := p.nw)
          rw [this, if_pos hj, su_zero fun _ _ => rfl]; omega
        rw [z n w0 hw, z (-n) o ho]; omega
      rw [e1]; exact q2
    · rw [su_congr fun w _ => hcol l e w]; exact q2
  · obtain ⟨q1, q2⟩ := hr.ok.giv w hw2 l hl
    by_cases e : l = k
    · subst e
      rw [hg2]
      have kw := kg w hw2
      have ko := kg o ho
      by_cases a1 : w = w0 <;> by_cases a2 : w = o <;> simp only [a1, a2, and_self, and_true, true_and, if_true, if_false, eq_self]
      · subst a1; subst a2
        rw [if_pos rfl]
        exact ⟨by omega, fun _ => hN⟩
      · subst a1
        rw [if_neg a2]
        exact ⟨by omega, fun _ => hN⟩
      · subst a2
        rw [if_neg a1]
        exact ⟨by omega, fun hp => q2 (by omega)⟩
      · exact ⟨by omega, fun hp => q2 (by omega)⟩
    · rw [hcol l e w]; exact ⟨q1, q2⟩
  · rw [hg2, hr.ok.out w l hout, if_neg (by omega), if_neg (by omega)]; omega
  · have hne : l ≠ k := fun e => by rw [e, htr] at ht; cases ht
    obtain ⟨q1, q2⟩ := hr.keep l hl (h.mono l ht)
    exact ⟨by rw [hl2 l hl, q1], fun w hw3 => by rw [hcol l hne w]; exact q2 w hw3⟩
  · have hgo := hr.got w hw2
    unfold gotF at hgo ⊢
    have : ∀ l, s2.g w l = s'.g w l + (if l = k then ((if w = w0 then n else 0) - (if w = o then n else 0)) else 0) := fun l => by
      rw [hg2]
      by_cases a0 : l = k <;> by_cases a1 : w = w0 <;> by_cases a2 : w = o <;> simp [a0, a1, a2] <;> omega
    rw [su_congr fun l _ => this l, su_add]
    have z : ∀ (x : Int) (j : Nat), j < p.nl → su (fun w => if w = j then x else 0) p.nl = x := fun x j hj => by
      have := su_upd (f := fun _ => 0) (k := j) (x := x) (n := p.nl)
      rw [this, if_pos hj, su_zero fun _ _ => rfl]; omega
    rw [z _ k hk, hgo]
    omega
  · obtain ⟨c1, c2⟩ := hr.cls S T hc
    have hTk : ¬ T k := fun hT => by
      have := c1 ((hc.full k hk hT).2 o ho (by omega))
      omega
    exact ⟨fun hS => absurd (hc.near w0 hw hS k hk hN) hTk, fun l hl hT => by
      obtain ⟨q1, q2⟩ := c2 l hl hT
      exact ⟨by rw [hl2 l hl, q1], fun w hw3 => by rw [hcol l (fun e => hTk (e ▸ hT)) w]; exact q2 w hw3⟩⟩
theorem ClsF.keep {S T : Nat → Prop} (h : ClsF p s S T) (hk : ∀ l, l < p.nl → T l → s'.left l = s.left l ∧ ∀ w, w < p.nw → s'.g w l = s.g w l) : ClsF p s' S T :=
  ⟨h.near, fun l hl hT => by
    obtain ⟨q1, q2⟩ := hk l hl hT
    obtain ⟨f1, f2⟩ := h.full l hl hT
    exact ⟨by rw [q1, f1], fun w hw hg => f2 w hw (by rw [← q2 w hw]; exact hg)⟩⟩
/-- a search that found nothing: more wants that can't get more -/
theorem ClsF.more {S T : Nat → Prop} (h : ClsF p s S T) (hr : GetR p s (fun _ => false) w0 m s' t' 0) : ∃ S' T' : Nat → Prop, ClsF p s' S' T' ∧ (∀ w, S w → S' w) ∧ S' w0 := by
  have hs := hr.same rfl
  refine ⟨fun w => S w ∨ w = w0 ∨ ∃ l, l < p.nl ∧ t' l = true ∧ 0 < s.g w l, fun l => T l ∨ t' l = true, ⟨fun w hw hS l hl hN => ?_, fun l hl hT => ?_⟩, fun w hw => Or.inl hw, Or.inr (Or.inl rfl)⟩
  · rcases hS with hS | hS | ⟨l2, a1, a2, a3⟩
    · exact Or.inl (h.near w hw hS l hl hN)
    · subst hS; exact Or.inr (hr.near rfl l hl hN)
    · exact Or.inr ((hr.full rfl l2 a1 a2 rfl).2 w hw a3 l hl hN)
  · rw [hs.left l hl]
    rcases hT with hT | hT
    · obtain ⟨f1, f2⟩ := h.full l hl hT
      exact ⟨f1, fun w hw hg => Or.inl (f2 w hw (by rw [← hs.g w l]; exact hg))⟩
    · exact ⟨(hr.full rfl l hl hT rfl).1, fun w hw hg => Or.inr (Or.inr ⟨l, hl, hT, by rw [← hs.g w l]; exact hg⟩)⟩
/-- some want of a set may have a lot -/
def anyN (f : Nat → Bool) : Nat → Bool
  | 0 => false
  | n + 1 => anyN f n || f n
theorem anyN_iff {f : Nat → Bool} : ∀ {n : Nat}, anyN f n = true ↔ ∃ i, i < n ∧ f i = true
  | 0 => by simp [anyN]
  | n + 1 => by
    rw [anyN, Bool.or_eq_true, anyN_iff]
    constructor
    · rintro (⟨i, h1, h2⟩ | h)
      · exact ⟨i, by omega, h2⟩
      · exact ⟨n, by omega, h⟩
    · rintro ⟨i, h1, h2⟩
      by_cases e : i = n
      · subst e; exact Or.inr h2
      · exact Or.inl ⟨i, by omega, h2⟩
def nearA (p : Net) (f : Nat → Bool) (l : Nat) : Bool := anyN (fun w => f w && p.N l w) p.nw
def bndF (p : Net) (f : Nat → Bool) : Int := su (fun w => if f w = true then 0 else p.d w) p.nw + su (fun l => if nearA p f l = true then p.c l else 0) p.nl
def totF (p : Net) (s : Fl) : Int := su (gotF p s) p.nw
theorem tot_parts (f : Nat → Bool) : totF p s = su (fun w => if f w = true then 0 else gotF p s w) p.nw + su (fun l => su (fun w => if f w = true then s.g w l else 0) p.nw) p.nl := by
  rw [← su_swap (h := fun w l => if f w = true then s.g w l else 0), ← su_add]
  refine su_congr fun w hw => ?_
  unfold gotF
  by_cases e : f w = true
  · simp only [e, if_true]
    show su (s.g w) p.nl = 0 + su (s.g w) p.nl
    omega
  · simp only [e, if_false, Bool.false_eq_true]; rw [su_zero (f := fun _ => (0 : Int)) fun _ _ => rfl]; omega
theorem tot_le (hok : FlOk p s) (hd : ∀ w, w < p.nw → gotF p s w ≤ p.d w) (f : Nat → Bool) : totF p s ≤ bndF p f := by
  rw [tot_parts f]
  unfold bndF
  have h1 : su (fun w => if f w = true then 0 else gotF p s w) p.nw ≤ su (fun w => if f w = true then 0 else p.d w) p.nw := su_le fun w hw => by
    split
    · exact Int.le_refl _
    · exact hd w hw
  have h2 : su (fun l => su (fun w => if f w = true then s.g w l else 0) p.nw) p.nl ≤ su (fun l => if nearA p f l = true then p.c l else 0) p.nl := su_le fun l hl => by
    by_cases e : nearA p f l = true
    · simp only [e, if_true]
      obtain ⟨q1, q2⟩ := hok.lot l hl
      have : su (fun w => if f w = true then s.g w l else 0) p.nw ≤ su (fun w => s.g w l) p.nw := su_le fun w hw => by
        have := (hok.giv w hw l hl).1
        split <;> omega
      omega
    · simp only [e, Bool.false_eq_true, if_false]
      rw [su_zero fun w hw => ?_]
      · exact Int.le_refl _
      · split
        · rename_i hf
          have g0 := hok.giv w hw l hl
          apply Classical.byContradiction
          intro hne
          exact e (anyN_iff.2 ⟨w, hw, by simp only [hf, Bool.true_and]; exact g0.2 (by omega)⟩)
        · rfl
  omega
theorem tot_eq (hok : FlOk p s) {S T : Nat → Prop} (hc : ClsF p s S T) (hd : ∀ w, w < p.nw → gotF p s w = p.d w ∨ S w) {f : Nat → Bool} (hf : ∀ w, w < p.nw → (f w = true ↔ S w)) : totF p s = bndF p f := by
  rw [tot_parts f]
  unfold bndF
  congr 1
  · refine su_congr fun w hw => ?_
    split
    · rfl
    · rename_i e
      rcases hd w hw with h | h
      · exact h
      · exact absurd ((hf w hw).2 h) e
  · refine su_congr fun l hl => ?_
    by_cases e : nearA p f l = true
    · simp only [e, if_true]
      obtain ⟨w, hw, hfw⟩ := anyN_iff.1 e
      simp only [Bool.and_eq_true] at hfw
      have hT := hc.near w hw ((hf w hw).1 hfw.1) l hl hfw.2
      obtain ⟨f1, f2⟩ := hc.full l hl hT
      obtain ⟨q1, q2⟩ := hok.lot l hl
      rw [← q2, f1, Int.zero_add]
      refine su_congr fun w hw => ?_
      by_cases ef : f w = true
      · simp only [ef, if_true]
      · simp only [ef, Bool.false_eq_true, if_false]
        have g0 := (hok.giv w hw l hl).1
        apply Classical.byContradiction
        intro hne
        exact ef ((hf w hw).2 (f2 w hw (by omega)))
    · simp only [e, Bool.false_eq_true, if_false]
      refine su_zero fun w hw => ?_
      split
      · rename_i hfw
        have g0 := hok.giv w hw l hl
        apply Classical.byContradiction
        intro hne
        exact e (anyN_iff.2 ⟨w, hw, by simp only [hfw, Bool.true_and]; exact g0.2 (by omega)⟩)
      · rfl
/-- a set as a number -/
theorem mask_of (S : Nat → Prop) : ∀ n : Nat, ∃ m, m < 2 ^ n ∧ ∀ w, w < n → (m.testBit w = true ↔ S w)
  | 0 => ⟨0, by simp, fun w hw => by omega⟩
  | n + 1 => by
    obtain ⟨m, h1, h2⟩ := mask_of S n
    have hp : 2 ^ (n + 1) = 2 ^ n + 2 ^ n := by rw [Nat.pow_succ]; omega
    by_cases hS : S n
    · refine ⟨2 ^ n + m, by omega, fun w hw => ?_⟩
      by_cases e : w = n
      · subst e
        rw [Nat.testBit_two_pow_add_eq, Nat.testBit_lt_two_pow h1]
        simp [hS]
      · rw [Nat.testBit_two_pow_add_gt (by omega)]
        exact h2 w (by omega)
    · refine ⟨m, by omega, fun w hw => ?_⟩
      by_cases e : w = n
      · subst e
        rw [Nat.testBit_lt_two_pow h1]
        simp [hS]
      · exact h2 w (by omega)
/-- the least bound of all sets -/
def minM (p : Net) : Nat → Int
  | 0 => bndF p (fun w => (0 : Nat).testBit w)
  | n + 1 => min (minM p n) (bndF p (fun w => (n + 1).testBit w))
theorem minM_le : ∀ {n m : Nat}, m ≤ n → minM p n ≤ bndF p (fun w => m.testBit w)
  | 0, m, h => by have : m = 0 := by omega
                  subst this; exact Int.le_refl _
  | n + 1, m, h => by
    simp only [minM]
    by_cases e : m = n + 1
    · subst e; omega
    · have := minM_le (n := n) (m := m) (by omega); omega
theorem minM_ex : ∀ {n : Nat}, ∃ m, m ≤ n ∧ minM p n = bndF p (fun w => m.testBit w)
  | 0 => ⟨0, Nat.le_refl _, rfl⟩
  | n + 1 => by
    obtain ⟨m, h1, h2⟩ := minM_ex (n := n)
    simp only [minM]
    by_cases e : minM p n ≤ bndF p (fun w => (n + 1).testBit w)
    · exact ⟨m, by omega, by rw [← h2]; omega⟩
    · exact ⟨n + 1, Nat.le_refl _, by omega⟩
def mostF (p : Net) : Int := minM p (2 ^ p.nw - 1)
theorem bnd_congr {f g : Nat → Bool} (h : ∀ w, w < p.nw → f w = g w) : bndF p f = bndF p g := by
  unfold bndF
  congr 1
  · exact su_congr fun w hw => by rw [h w hw]
  · refine su_congr fun l _ => ?_
    have : nearA p f l = nearA p g l := by
      rw [Bool.eq_iff_iff, nearA, nearA, anyN_iff, anyN_iff]
      constructor
      · rintro ⟨w, a, b⟩; exact ⟨w, a, by rw [← h w a]; exact b⟩
      · rintro ⟨w, a, b⟩; exact ⟨w, a, by rw [h w a]; exact b⟩
    rw [this]
theorem most_le (f : Nat → Bool) : mostF p ≤ bndF p f := by
  obtain ⟨m, h1, h2⟩ := mask_of (fun w => f w = true) p.nw
  have := minM_le (p := p) (n := 2 ^ p.nw - 1) (m := m) (by omega)
  rw [bnd_congr (f := fun w => m.testBit w) (g := f) fun w hw => by rw [Bool.eq_iff_iff]; exact h2 w hw] at this
  exact this
theorem most_ex : ∃ m, m < 2 ^ p.nw ∧ mostF p = bndF p (fun w => m.testBit w) := by
  obtain ⟨m, h1, h2⟩ := minM_ex (p := p) (n := 2 ^ p.nw - 1)
  have : 0 < 2 ^ p.nw := Nat.pos_of_ne_zero (by simp)
  exact ⟨m, by omega, h2⟩
/-- a closed set shows that what is given is the most -/
theorem tot_most (hok : FlOk p s) (hd : ∀ w, w < p.nw → gotF p s w ≤ p.d w) {S T : Nat → Prop} (hc : ClsF p s S T) (hs : ∀ w, w < p.nw → gotF p s w = p.d w ∨ S w) : totF p s = mostF p := by
  refine Int.le_antisymm ?_ ?_
  · obtain ⟨m, h1, h2⟩ := most_ex (p := p)
    rw [h2]; exact tot_le hok hd _
  · obtain ⟨m, h1, h2⟩ := mask_of S p.nw
    rw [tot_eq hok hc hs (f := fun w => m.testBit w) h2]; exact most_le _
end
end Go.Proofs.Ytlljkhhdhedajaa.Vm
