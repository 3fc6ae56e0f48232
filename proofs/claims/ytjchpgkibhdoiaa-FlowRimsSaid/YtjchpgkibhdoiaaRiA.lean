/- Regions of squares, pure: the rim tells what is inside. -/
import Derived.Test.YtjchpgkibhdoiaaFlF
import Derived.Test.YtjchpgkibhdoiaaFdA
namespace Go.Proofs.Ytjchpgkibhdoiaa.Vm
open Go
set_option maxRecDepth 100000
set_option linter.unusedSimpArgs false
set_option linter.unusedVariables false
attribute [-simp] List.getD_eq_getElem?_getD
/-- sums over lists -/
def tS {α : Type} (f : α → Int) (l : List α) (i : Nat) : Int := ((l.take i).map f).sum
theorem tS_succ {α : Type} [Inhabited α] {f : α → Int} {l : List α} {i : Nat} (h : i < l.length) : tS f l (i + 1) = tS f l i + f (l.getD i default) := by
  unfold tS
  rw [List.take_add_one, List.getElem?_eq_getElem h, List.getD_eq_getElem?_getD, List.getElem?_eq_getElem h]
  simp only [List.map_append, List.sum_append, Option.toList_some, List.map_cons, List.map_nil, List.sum_cons, List.sum_nil, Int.add_zero, Option.getD_some]
theorem tS_zero {α : Type} {f : α → Int} {l : List α} : tS f l 0 = 0 := by simp [tS]
theorem tS_all {α : Type} {f : α → Int} {l : List α} : tS f l l.length = (l.map f).sum := by unfold tS; rw [List.take_length]
theorem tS_bd {α : Type} [Inhabited α] {f : α → Int} {l : List α} {B : Int} (hb : ∀ a ∈ l, -B ≤ f a ∧ f a ≤ B) : ∀ {i : Nat}, i ≤ l.length → -(B * i) ≤ tS f l i ∧ tS f l i ≤ B * i
  | 0, _ => by simp [tS]
  | i + 1, h => by
    have ih := tS_bd hb (i := i) (by omega)
    have := hb (l.getD i default) (by simp [List.getD_eq_getElem?_getD, show i < l.length by omega])
    rw [tS_succ (by omega)]
    have e : B * ((i + 1 : Nat) : Int) = B * i + B := by rw [Int.natCast_add, Int.mul_add]; simp
    omega
theorem sum_congrL {α : Type} {f g : α → Int} {l : List α} (h : ∀ a ∈ l, f a = g a) : (l.map f).sum = (l.map g).sum := by rw [List.map_congr_left h]
theorem sum_addL {α : Type} {f g : α → Int} : ∀ {l : List α}, (l.map fun a => f a + g a).sum = (l.map f).sum + (l.map g).sum
  | [] => rfl
  | a :: l => by simp only [List.map_cons, List.sum_cons, sum_addL (l := l)]; omega
theorem sum_zeroL {α : Type} {l : List α} : (l.map fun _ => (0 : Int)).sum = 0 := by
  induction l with
  | nil => rfl
  | cons a l ih => simp only [List.map_cons, List.sum_cons, ih]; rfl
/-- one of them alone -/
theorem sum_oneL {α : Type} [DecidableEq α] {f : α → Int} {a : α} : ∀ {l : List α}, l.Nodup → (l.map fun x => if x = a then f x else 0).sum = if a ∈ l then f a else 0
  | [], _ => by simp
  | x :: l, h => by
    obtain ⟨h1, h2⟩ := List.nodup_cons.1 h
    have ih := sum_oneL (f := f) (a := a) h2
    simp only [List.map_cons, List.sum_cons, ih]
    by_cases e : x = a
    · subst e
      rw [if_pos rfl, if_neg h1, if_pos (List.mem_cons_self ..)]; omega
    · rw [if_neg e]
      by_cases e2 : a ∈ l
      · rw [if_pos e2, if_pos (List.mem_cons_of_mem _ e2)]; omega
      · rw [if_neg e2, if_neg (by
          intro hh
          rcases List.mem_cons.1 hh with hh | hh
          · exact e hh.symm
          · exact e2 hh)]; omega
theorem upL_asc {w q x y : Nat} : ∀ u, (upL w q x y u).Pairwise bef ∧ ∀ e ∈ upL w q x y u, e.x = x ∧ e.y = y ∧ e.u < u
  | 0 => ⟨.nil, fun e he => by simp [upL] at he⟩
  | u + 1 => by
    obtain ⟨h1, h2⟩ := upL_asc (w := w) (q := q) (x := x) (y := y) u
    have h3 : ∀ e ∈ (if isEB w q x y u = true then [(⟨x, y, u⟩ : Ed)] else []), e = ⟨x, y, u⟩ := by
      intro e he
      split at he
      · simpa using he
      · simp at he
    refine ⟨List.pairwise_append.2 ⟨h1, ?_, fun a ha b hb => ?_⟩, fun e he => ?_⟩
    · split
      · exact List.pairwise_singleton _ _
      · exact .nil
    · have g := h2 a ha
      rw [h3 b hb]
      unfold bef; simp only; omega
    · rcases List.mem_append.1 he with he | he
      · have := h2 e he
        refine ⟨this.1, this.2.1, by omega⟩
      · rw [h3 e he]
        exact ⟨rfl, rfl, by show (u : Int) < ((u + 1 : Nat) : Int); omega⟩
theorem rowL_asc {w q x : Nat} : ∀ y, (rowL w q x y).Pairwise bef ∧ ∀ e ∈ rowL w q x y, e.x = x ∧ e.y < y
  | 0 => ⟨.nil, fun e he => by simp [rowL] at he⟩
  | y + 1 => by
    obtain ⟨h1, h2⟩ := rowL_asc (w := w) (q := q) (x := x) y
    obtain ⟨g1, g2⟩ := upL_asc (w := w) (q := q) (x := x) (y := y) 2
    refine ⟨List.pairwise_append.2 ⟨h1, g1, fun a ha b hb => ?_⟩, fun e he => ?_⟩
    · have a1 := h2 a ha
      have b1 := g2 b hb
      unfold bef; omega
    · rcases List.mem_append.1 he with he | he
      · have := h2 e he
        refine ⟨this.1, by omega⟩
      · have := g2 e he
        refine ⟨this.1, by omega⟩
theorem edL_asc {w q : Nat} : ∀ x, (edL w q x).Pairwise bef ∧ ∀ e ∈ edL w q x, e.x < x
  | 0 => ⟨.nil, fun e he => by simp [edL] at he⟩
  | x + 1 => by
    obtain ⟨h1, h2⟩ := edL_asc (w := w) (q := q) x
    obtain ⟨g1, g2⟩ := rowL_asc (w := w) (q := q) (x := x) q
    refine ⟨List.pairwise_append.2 ⟨h1, g1, fun a ha b hb => ?_⟩, fun e he => ?_⟩
    · have a1 := h2 a ha
      have b1 := g2 b hb
      unfold bef; omega
    · rcases List.mem_append.1 he with he | he
      · have := h2 e he
        omega
      · have := g2 e he
        omega
theorem edL_nodup {w q : Nat} : (edL w q w).Nodup := (edL_asc w).1.imp fun {a b} h e => by subst e; unfold bef at h; omega
theorem edL_memS {w q : Nat} {x y u : Int} (h : isEB w q x y u = true) : (⟨x, y, u⟩ : Ed) ∈ edL w q w := by
  have h0 := h
  simp only [isEB, decide_eq_true_eq] at h0
  obtain ⟨x, rfl⟩ := Int.eq_ofNat_of_zero_le (show 0 ≤ x by omega)
  obtain ⟨y, rfl⟩ := Int.eq_ofNat_of_zero_le (show 0 ≤ y by omega)
  have hx : x < w := by omega
  have hy : y < q := by omega
  have a1 : (⟨x, y, u⟩ : Ed) ∈ upL w q x y 2 := by
    rcases (show u = 0 ∨ u = 1 by omega) with rfl | rfl
    · simp [upL, h]
    · simp [upL, h]
  have a2 : ∀ n, y < n → (⟨x, y, u⟩ : Ed) ∈ rowL w q x n := by
    intro n hn
    induction n with
    | zero => omega
    | succ n ih =>
      simp only [rowL, List.mem_append]
      by_cases e : y = n
      · subst e; exact Or.inr a1
      · exact Or.inl (ih (by omega))
  have a3 : ∀ n, x < n → (⟨x, y, u⟩ : Ed) ∈ edL w q n := by
    intro n hn
    induction n with
    | zero => omega
    | succ n ih =>
      simp only [edL, List.mem_append]
      by_cases e : x = n
      · subst e; exact Or.inr (a2 q hy)
      · exact Or.inl (ih (by omega))
  exact a3 w hx
/-- the sides of a square -/
def sdE (s : Pl) : Nat → Ed
  | 0 => ⟨s.x, s.y, 0⟩
  | 1 => ⟨s.x + 1, s.y, 1⟩
  | 2 => ⟨s.x, s.y + 1, 0⟩
  | _ => ⟨s.x, s.y, 1⟩
def sdS : Nat → Int
  | 0 => 1
  | 1 => 1
  | _ => -1
/-- what the sides of a square add up to -/
def sqS (φ : Ed → Int) (s : Pl) : Nat → Int
  | 0 => 0
  | k + 1 => sqS φ s k + sdS k * φ (sdE s k)
theorem sqS_4 {φ : Ed → Int} {s : Pl} : sqS φ s 4 = φ (sdE s 0) + φ (sdE s 1) - φ (sdE s 2) - φ (sdE s 3) := by
  simp only [sqS, sdS]; omega
/-- the square on an edge's left, on its right -/
def leE (e : Ed) : Pl := if e.u = 1 then ⟨e.x - 1, e.y⟩ else ⟨e.x, e.y⟩
def riE (e : Ed) : Pl := if e.u = 1 then ⟨e.x, e.y⟩ else ⟨e.x, e.y - 1⟩
theorem pl_eq {a b : Pl} : a = b ↔ a.x = b.x ∧ a.y = b.y := by
  cases a; cases b; simp
theorem ed_eq {a b : Ed} : a = b ↔ a.x = b.x ∧ a.y = b.y ∧ a.u = b.u := by
  cases a; cases b; simp
theorem le_sd {e : Ed} {s : Pl} (hu : e.u = 0 ∨ e.u = 1) : leE e = s ↔ e = sdE s 0 ∨ e = sdE s 1 := by
  obtain ⟨x, y, u⟩ := e
  obtain ⟨a, b⟩ := s
  have e0 : sdE ⟨a, b⟩ 0 = ⟨a, b, 0⟩ := rfl
  have e1 : sdE ⟨a, b⟩ 1 = ⟨a + 1, b, 1⟩ := rfl
  simp only at hu
  rcases hu with rfl | rfl
  · have : leE ⟨x, y, 0⟩ = ⟨x, y⟩ := by simp [leE]
    rw [this, e0, e1]; simp only [Pl.mk.injEq, Ed.mk.injEq, and_true]; constructor <;> intro h <;> omega
  · have : leE ⟨x, y, 1⟩ = ⟨x - 1, y⟩ := by simp [leE]
    rw [this, e0, e1]; simp only [Pl.mk.injEq, Ed.mk.injEq, and_true]; constructor <;> intro h <;> omega
theorem ri_sd {e : Ed} {s : Pl} (hu : e.u = 0 ∨ e.u = 1) : riE e = s ↔ e = sdE s 2 ∨ e = sdE s 3 := by
  obtain ⟨x, y, u⟩ := e
  obtain ⟨a, b⟩ := s
  have e0 : sdE ⟨a, b⟩ 2 = ⟨a, b + 1, 0⟩ := rfl
  have e1 : sdE ⟨a, b⟩ 3 = ⟨a, b, 1⟩ := rfl
  simp only at hu
  rcases hu with rfl | rfl
  · have : riE ⟨x, y, 0⟩ = ⟨x, y - 1⟩ := by simp [riE]
    rw [this, e0, e1]; simp only [Pl.mk.injEq, Ed.mk.injEq, and_true]; constructor <;> intro h <;> omega
  · have : riE ⟨x, y, 1⟩ = ⟨x, y⟩ := by simp [riE]
    rw [this, e0, e1]; simp only [Pl.mk.injEq, Ed.mk.injEq, and_true]; constructor <;> intro h <;> omega
theorem ind4 {A B C D : Prop} [Decidable A] [Decidable B] [Decidable C] [Decidable D] {t : Int} (h1 : ¬ (A ∧ B)) (h2 : ¬ (C ∧ D)) :
    t * ((if A ∨ B then 1 else 0) - (if C ∨ D then 1 else 0)) = ((if A then t else 0) + (if B then t else 0)) + ((if C then -t else 0) + (if D then -t else 0)) := by
  by_cases a : A <;> by_cases b : B <;> by_cases c : C <;> by_cases d : D <;> simp_all <;> omega
/-- an indicator -/
def ib (p : Prop) [Decidable p] : Int := if p then 1 else 0
/-- the edges of one square -/
theorem one_sq {w q : Nat} {φ : Ed → Int} {s : Pl} (hs : isSB w q s.x s.y = true) : ((edL w q w).map fun e => φ e * (ib (leE e = s) - ib (riE e = s))).sum = sqS φ s 4 := by
  obtain ⟨e0, e1, e2, e3⟩ := isSB_ed hs
  have nd := edL_nodup (w := w) (q := q)
  have ok := edL_ok (w := w) (q := q) w
  have h : ∀ e ∈ edL w q w, φ e * (ib (leE e = s) - ib (riE e = s)) =
      ((if e = sdE s 0 then φ e else 0) + (if e = sdE s 1 then φ e else 0)) + ((if e = sdE s 2 then (fun e => - φ e) e else 0) + (if e = sdE s 3 then (fun e => - φ e) e else 0)) := by
    intro e he
    have hu := isEB_u (ok e he)
    have n01 : ¬ (e = sdE s 0 ∧ e = sdE s 1) := by
      rintro ⟨h1, h2⟩
      have := congrArg Ed.u (h1.symm.trans h2)
      simp [sdE] at this
    have n23 : ¬ (e = sdE s 2 ∧ e = sdE s 3) := by
      rintro ⟨h1, h2⟩
      have := congrArg Ed.u (h1.symm.trans h2)
      simp [sdE] at this
    have := ind4 (t := φ e) n01 n23
    rw [← this]
    unfold ib
    simp only [le_sd hu, ri_sd hu]
  rw [sum_congrL h, sum_addL, sum_addL, sum_addL, sum_oneL nd, sum_oneL nd, sum_oneL nd, sum_oneL nd, if_pos (show sdE s 0 ∈ _ from edL_memS e0), if_pos (show sdE s 1 ∈ _ from edL_memS e1), if_pos (show sdE s 2 ∈ _ from edL_memS e2), if_pos (show sdE s 3 ∈ _ from edL_memS e3), sqS_4]
  simp only [sdE]; omega
/-- the edges of squares, each of which is there once -/
theorem all_sq {w q : Nat} {φ : Ed → Int} : ∀ {S : List Pl}, (∀ s ∈ S, isSB w q s.x s.y = true) → S.Nodup → ((edL w q w).map fun e => φ e * (ib (leE e ∈ S) - ib (riE e ∈ S))).sum = (S.map fun s => sqS φ s 4).sum
  | [], _, _ => by
    rw [sum_congrL (g := fun _ => 0) fun e _ => by simp [ib]]
    rw [sum_zeroL]; rfl
  | s :: S, h, hn => by
    obtain ⟨h1, h2⟩ := List.nodup_cons.1 hn
    have ih := all_sq (φ := φ) (fun t ht => h t (List.mem_cons_of_mem _ ht)) h2
    have o := one_sq (φ := φ) (h s (List.mem_cons_self ..))
    simp only [List.map_cons, List.sum_cons]
    rw [← ih, ← o, ← sum_addL]
    refine sum_congrL fun e _ => ?_
    have key : ∀ t : Pl, ib (t ∈ s :: S) = ib (t = s) + ib (t ∈ S) := by
      intro t
      unfold ib
      by_cases a : t = s
      · subst a; simp [h1]
      · simp [a]
    rw [key, key, ← Int.mul_add]
    congr 1; omega
/-- how often an edge is a side -/
def useS (e : Ed) (s : Pl) : Nat → Int
  | 0 => 0
  | k + 1 => useS e s k + if sdE s k = e then 1 else 0
def useN (S : List Pl) (e : Ed) : Int := (S.map fun s => useS e s 4).sum
theorem useN_eq {S : List Pl} (hn : S.Nodup) {e : Ed} (hu : e.u = 0 ∨ e.u = 1) : useN S e = ib (leE e ∈ S) + ib (riE e ∈ S) := by
  have h4 : ∀ s, useS e s 4 = ib (leE e = s) + ib (riE e = s) := by
    intro s
    have n01 : ¬ (sdE s 0 = e ∧ sdE s 1 = e) := by
      rintro ⟨h1, h2⟩
      have := congrArg Ed.u (h1.trans h2.symm)
      simp [sdE] at this
    have n23 : ¬ (sdE s 2 = e ∧ sdE s 3 = e) := by
      rintro ⟨h1, h2⟩
      have := congrArg Ed.u (h1.trans h2.symm)
      simp [sdE] at this
    simp only [useS]
    unfold ib
    simp only [le_sd hu, ri_sd hu, eq_comm (a := e)]
    by_cases a : sdE s 0 = e <;> by_cases b : sdE s 1 = e <;> by_cases c : sdE s 2 = e <;> by_cases d : sdE s 3 = e <;> simp_all
  unfold useN
  rw [sum_congrL fun s _ => h4 s, sum_addL]
  have : ∀ {T : List Pl} {t : Pl}, T.Nodup → (T.map fun s => ib (t = s)).sum = ib (t ∈ T) := by
    intro T t hT
    have := sum_oneL (f := fun _ => (1 : Int)) (a := t) hT
    unfold ib
    rw [← this]
    refine sum_congrL fun s _ => ?_
    simp only [eq_comm (a := t)]
  rw [this hn, this hn]
/-- the rim tells what is inside -/
theorem rim_in {w q : Nat} {c : Ed → Int} {S : List Pl} (h : ∀ s ∈ S, isSB w q s.x s.y = true) (hn : S.Nodup) :
    ((edL w q w).map fun e => c e * (ib (leE e ∈ S) - ib (riE e ∈ S))).sum = (S.map fun s => sqS c s 4).sum ∧
    (S.map fun s => sqS (fun e => if useN S e = 1 then c e else 0) s 4).sum = (S.map fun s => sqS c s 4).sum := by
  have a := all_sq (φ := c) h hn
  have b := all_sq (φ := fun e => if useN S e = 1 then c e else 0) h hn
  refine ⟨a, ?_⟩
  rw [← a, ← b]
  refine sum_congrL fun e he => ?_
  have hu := isEB_u (edL_ok (w := w) (q := q) w e he)
  simp only [useN_eq hn hu]
  unfold ib
  by_cases l : leE e ∈ S <;> by_cases r : riE e ∈ S <;> simp [l, r]
end Go.Proofs.Ytjchpgkibhdoiaa.Vm
