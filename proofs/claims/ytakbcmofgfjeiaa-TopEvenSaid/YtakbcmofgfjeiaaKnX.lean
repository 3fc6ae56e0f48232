/- Package knot over the machine: quotas. -/
import Derived.Test.YtakbcmofgfjeiaaKnV
namespace Go.Proofs.Ytakbcmofgfjeiaa.Vm
open Go
set_option maxRecDepth 100000
set_option linter.unusedSimpArgs false
set_option linter.unusedVariables false
attribute [-simp] List.getD_eq_getElem?_getD

theorem setH_othB {n : Nat} {H : Hp} {v : V} {l : List Int} (h : OwnV n H v l) {cs : List V} {b' : Nat} (hne : ∀ o z y, v ≠ .sl b' o z y) : (setH H v cs)[b']? = H[b']? := by
  cases h with
  | nil => rfl
  | row h1 h3 =>
    rename_i b
    show (H.set b _)[b']? = _
    rw [List.getElem?_set_ne (fun e => hne _ _ _ (by rw [e]))]
def Apart (u v : V) : Prop := ∀ b o z y b' o' z' y', u = .sl b o z y → v = .sl b' o' z' y' → b ≠ b'
theorem OwnV.keepQ {n : Nat} {H H' : Hp} {v : V} {l : List Int} (h : OwnV n H v l) (hk : ∀ b o m z, v = .sl b o m z → H'[b]? = H[b]?) : OwnV n H' v l := by
  cases h with
  | nil => exact .nil
  | row h1 h3 => exact .row h1 (by rw [hk _ _ _ _ rfl]; exact h3)
theorem OwnV.ptr1 {n : Nat} {H : Hp} {v : V} {l : List Int} (h : OwnV n H v l) {i : Nat} (hi : i < l.length) : isPtr (ept 1 v i) = true := by
  cases h with
  | nil => simp at hi
  | row h1 h3 => rfl
theorem OwnV.lp1 {n : Nat} {H : Hp} {v : V} {l : List Int} (h : OwnV n H v l) {i : Nat} (hi : i < l.length) : isLp (ept 1 v i) = false := by
  cases h with
  | nil => simp at hi
  | row h1 h3 => rfl
/-- the first greatest among the first ones -/
def bstN (r : List Int) : Nat → Nat
  | 0 => 0
  | m + 1 => if r.getD (bstN r m) 0 < r.getD m 0 then m else bstN r m
theorem bstN_lt {r : List Int} : ∀ {m : Nat}, bstN r m ≤ m - 1
  | 0 => Nat.le_refl _
  | m + 1 => by have := @bstN_lt r m; simp only [bstN]; split <;> omega
def quo1 (s : List Int × List Int) : List Int × List Int := (s.1.set (bstN s.2 s.2.length) (s.1.getD (bstN s.2 s.2.length) 0 + 1), s.2.set (bstN s.2 s.2.length) (-1))
def quoN (s : List Int × List Int) : Nat → List Int × List Int
  | 0 => s
  | k + 1 => quo1 (quoN s k)
theorem quoN_len {s : List Int × List Int} : ∀ {k : Nat}, (quoN s k).1.length = s.1.length ∧ (quoN s k).2.length = s.2.length
  | 0 => ⟨rfl, rfl⟩
  | k + 1 => by have := @quoN_len s k; simp only [quoN, quo1, List.length_set]; exact this
def qL (n W : Int) (l : List Int) : List Int := l.map fun w => (n * w).tdiv W
def rL (n W : Int) (l : List Int) : List Int := l.map fun w => (n * w).tmod W
theorem sum_set {l : List Int} {i : Nat} (hi : i < l.length) : ∀ {x : Int}, (l.set i x).sum = l.sum + (x - l.getD i 0) := by
  induction l generalizing i with
  | nil => simp at hi
  | cons a l ih =>
    intro x
    cases i with
    | zero => simp [List.getD_eq_getElem?_getD]; omega
    | succ i =>
      have := ih (i := i) (by simpa using hi) (x := x)
      simp [List.getD_eq_getElem?_getD] at this ⊢; omega
theorem quoN_sum {s : List Int × List Int} (h1 : s.1.length = s.2.length) (h2 : 0 < s.2.length) : ∀ {k : Nat}, (quoN s k).1.sum = s.1.sum + k
  | 0 => by simp [quoN]
  | k + 1 => by
    have ih := quoN_sum h1 h2 (k := k)
    have hl := @quoN_len s k
    have hb := @bstN_lt (quoN s k).2 (quoN s k).2.length
    simp only [quoN, quo1]
    rw [sum_set (by omega), ih]; omega
theorem quoN_bd {s : List Int × List Int} (h : ∀ i, i < s.1.length → 0 ≤ s.1.getD i 0 ∧ s.1.getD i 0 ≤ 600000) : ∀ {k i : Nat}, i < s.1.length → 0 ≤ (quoN s k).1.getD i 0 ∧ (quoN s k).1.getD i 0 ≤ 600000 + k
  | 0, i, hi => by have := h i hi; simp only [quoN]; omega
  | k + 1, i, hi => by
    have ih := quoN_bd h (k := k) hi
    have hl := @quoN_len s k
    simp only [quoN, quo1]
    by_cases e : i = bstN (quoN s k).2 (quoN s k).2.length
    · subst e
      rw [List.getD_eq_getElem?_getD, List.getElem?_set_self (by omega)]
      simp; omega
    · rw [List.getD_eq_getElem?_getD, List.getElem?_set_ne (fun e' => e e'.symm), ← List.getD_eq_getElem?_getD]; omega
/-- the parts that are shared out, and what is left of them, are all -/
theorem qr_sum {n W : Int} {l : List Int} : n * l.sum = W * (qL n W l).sum + (rL n W l).sum := by
  induction l with
  | nil => simp [qL, rL]
  | cons a l ih =>
    simp only [qL, rL, List.map_cons, List.sum_cons] at ih ⊢
    have := Int.mul_tdiv_add_tmod (n * a) W
    rw [Int.mul_add, Int.mul_add]; omega
theorem q_le {n W : Int} {l : List Int} (hn : 0 ≤ n) (hW : 0 < W) (hs : l.sum = W) (hw : ∀ w ∈ l, 0 ≤ w) : (qL n W l).sum ≤ n := by
  have h := @qr_sum n W l
  have hr : 0 ≤ (rL n W l).sum := by
    have : ∀ x ∈ rL n W l, 0 ≤ x := fun x hx => by
      obtain ⟨w, h1, rfl⟩ := List.mem_map.1 hx
      exact Int.tmod_nonneg _ (Int.mul_nonneg hn (hw w h1))
    clear h hs
    revert this
    generalize rL n W l = q
    intro this
    induction q with
    | nil => simp
    | cons a q ih =>
      have h1 := this a List.mem_cons_self
      have h2 := ih fun x hx => this x (List.mem_cons_of_mem _ hx)
      simp only [List.sum_cons]; omega
  rw [hs] at h
  have h3 : W * (qL n W l).sum ≤ W * n := by rw [Int.mul_comm W n]; omega
  exact Int.le_of_mul_le_mul_left h3 hW
def quoE (l : List Int) (n : Int) : Int := if sumW l = 0 ∨ n < 0 ∨ 600 < n then 1 else 0
def quoL (l : List Int) (n : Int) : List Int := if quoE l n = 0 then (quoN (qL n (sumW l) l, rL n (sumW l) l) (n - (qL n (sumW l) l).sum).toNat).1 else []
theorem qL_get {n W : Int} {l : List Int} {i : Nat} (h : i < l.length) : (qL n W l).getD i 0 = (n * l.getD i 0).tdiv W := by
  simp [qL, List.getD_eq_getElem?_getD, h]
theorem rL_get {n W : Int} {l : List Int} {i : Nat} (h : i < l.length) : (rL n W l).getD i 0 = (n * l.getD i 0).tmod W := by
  simp [rL, List.getD_eq_getElem?_getD, h]
theorem setI_get {l : List Int} {i k : Nat} {x : Int} (h : i < l.length) : (l.set i x).getD k 0 = if k = i then x else l.getD k 0 := by
  simp only [List.getD_eq_getElem?_getD, List.getElem?_set]
  by_cases e : k = i
  · subst e; simp [h]
  · rw [if_neg (fun e' => e e'.symm), if_neg e]
theorem list_ext {l l' : List Int} (hl : l.length = l'.length) (h : ∀ i, i < l'.length → l.getD i 0 = l'.getD i 0) : l = l' := by
  apply List.ext_getElem hl
  intro i h1 h2
  have := h i h2
  simpa [List.getD_eq_getElem?_getD, h1, h2] using this
theorem take_sum {l : List Int} {i : Nat} (h : i < l.length) : (l.take (i + 1)).sum = (l.take i).sum + l.getD i 0 := by
  rw [take_snoc h]; simp
theorem take_bd {l : List Int} (h : ∀ i, i < l.length → 0 ≤ l.getD i 0 ∧ l.getD i 0 ≤ 600000) : ∀ {i : Nat}, i ≤ l.length → 0 ≤ (l.take i).sum ∧ (l.take i).sum ≤ 600000 * i
  | 0, _ => by simp
  | i + 1, hi => by
    have ih := take_bd h (i := i) (by omega)
    have := h i (by omega)
    rw [take_sum (by omega)]; omega
section
variable {lim : Nat} {H : Hp} {K : V → Hp → Prop} {v : V} {l : List Int} {n : Int}
theorem knot_Quotas (hv : SlV H v l) (hlim : lim ≤ H.length) (hK : ∀ H' w, HX H H' → OwnV H.length H' w (quoL l n) → K (.tup [w, .int .i64 (quoE l n)]) H') : VCall tbl lim 36 [v, .int .i64 n] H K := by
  refine VCall_fn tbl_at36 rfl ?_
  simp [vf36, hv.stor]
  refine knot_sumOfWeights hv ?_
  have hno : (sumW l = 0 ∨ n < 0 ∨ 600 < n) → K (.tup [.snil, .int .i64 1]) H := fun h => by
    have e1 : quoE l n = 1 := if_pos h
    have e2 : quoL l n = [] := by unfold quoL; rw [e1]; rfl
    have := hK H .snil HX.refl (by rw [e2]; exact .nil)
    rwa [e1] at this
  by_cases h0 : sumW l = 0
  · simp [h0]
    exact hno (Or.inl h0)
  by_cases h1 : n < 0
  · simp [h0, h1]
    exact hno (Or.inr (Or.inl h1))
  by_cases h2 : 600 < n
  · simp [h0, h1, h2]
    exact hno (Or.inr (Or.inr h2))
  have e1 : quoE l n = 0 := if_neg (by omega)
  obtain ⟨w1, w2, w3, w4, w5⟩ := sumW_pos h0
  have wb := fun i => wBad_bd w2 (i := i)
  have eL : quoL l n = (quoN (qL n (sumW l) l, rL n (sumW l) l) (n - (qL n (sumW l) l).sum).toNat).1 := if_pos e1
  rw [e1, eL] at hK
  have hmem : ∀ w ∈ l, 0 ≤ w ∧ w ≤ 1000 := fun w hw => by
    obtain ⟨i, hi, e⟩ := List.mem_iff_getElem.1 hw
    have := wb i
    rw [List.getD_eq_getElem?_getD, List.getElem?_eq_getElem hi] at this
    simp at this; omega
  have hs1 : (qL n (sumW l) l).sum ≤ n := q_le (by omega) (by omega) w3.symm fun w hw => (hmem w hw).1
  generalize hW : sumW l = W at *
  have hlen : (qL n W l).length = l.length := by simp [qL]
  have hlen2 : (rL n W l).length = l.length := by simp [rL]
  simp (disch := omega) [h0, h1, h2, hv.len]
  have hq : ∀ i, i < l.length → (0 ≤ n * l.getD i 0 ∧ n * l.getD i 0 ≤ 600 * 1000) ∧ (0 ≤ (n * l.getD i 0).tdiv W ∧ (n * l.getD i 0).tdiv W ≤ n * l.getD i 0) := fun i hi => by
    have hb := mul_bd (a := n) (b := l.getD i 0) (A := 600) (B := 1000) (by omega) (by have := wb i; omega)
    exact ⟨hb, tdiv_bd hb.1 (by omega)⟩
  have ha : Apart (.sl H.length 0 l.length 1) (.sl (H.length + 1) 0 l.length 1) := fun b o z y b' o' z' y' e e' => by cases e; cases e'; omega
  have hx0 : HX H (H ++ [.row (ints (zs l.length)) true, .row (ints (zs l.length)) true]) := ⟨_, rfl⟩
  have o7 : OwnV H.length (H ++ [.row (ints (zs l.length)) true, .row (ints (zs l.length)) true]) (.sl H.length 0 (zs l.length).length 1) (zs l.length) := .row (Nat.le_refl _) (by simp)
  have o8 : OwnV H.length (H ++ [.row (ints (zs l.length)) true, .row (ints (zs l.length)) true]) (.sl (H.length + 1) 0 (zs l.length).length 1) (zs l.length) := .row (by omega) (by rw [List.getElem?_append_right (by omega)]; simp)
  have hzl : (zs l.length).length = l.length := by simp [zs]
  rw [hzl] at o7 o8
  generalize V.sl H.length 0 l.length 1 = v7 at ha o7 ⊢
  generalize V.sl (H.length + 1) 0 l.length 1 = v8 at ha o8 ⊢
  generalize H ++ [Blk.row (ints (zs l.length)) true, Blk.row (ints (zs l.length)) true] = H0 at hx0 o7 o8 ⊢
  refine wLoop_up l.length (fun i fr L H' => ∃ o r, (fr 1 = .int .i64 n ∧ fr 6 = .int .i64 W ∧ fr 7 = v7 ∧ fr 8 = v8 ∧ fr 34 = v ∧ fr 35 = .int .i64 l.length ∧ fr 36 = .int .i64 i ∧ fr 9 = .int .i64 (n - ((qL n W l).take i).sum)) ∧ L = [] ∧ HX H H' ∧ OwnV H.length H' v7 o ∧ OwnV H.length H' v8 r ∧ o.length = l.length ∧ r.length = l.length ∧ ∀ c, c < i → o.getD c 0 = (qL n W l).getD c 0 ∧ r.getD c 0 = (rL n W l).getD c 0) ⟨_, _, by simp [hv.len], rfl, hx0, o7, o8, hzl, hzl, fun c hc => by omega⟩ ?_
  rintro i hi fr L H' ⟨o, r, ⟨f1, f6, f7, f8, f34, f35, f36, f9⟩, rfl, hx, p7, p8, ho, hr, hz⟩
  simp [f1, f6, f7, f8, f34, f35, f36, f9]
  refine cond_dec (fun ht => ?_) fun hfl => ?_
  · have ht : i < l.length := by omega
    obtain ⟨q1, q2⟩ := hq i ht
    have hv' := hv.mono hx
    have av := hv'.addr (i := (i : Int)) (by omega)
    have a7 := p7.sl.addr (i := (i : Int)) (by omega)
    have a8 := p8.sl.addr (i := (i : Int)) (by omega)
    simp only [Int.toNat_natCast] at av a7 a8
    have st1 := fun L => p7.store (lim := lim) (i := i) (x := (n * l.getD i 0).tdiv W) (L := L) ⟨hlim, by omega⟩
    have n7 := p7.put (l' := o.set i ((n * l.getD i 0).tdiv W)) (by simp)
    have p8' : OwnV H.length (setH H' v7 (ints (o.set i ((n * l.getD i 0).tdiv W)))) v8 r := p8.keepQ fun b o m z e => setH_othB p7 fun o' z' y' e' => ha _ _ _ _ _ _ _ _ e' e rfl
    have st2 := fun L => p8'.store (lim := lim) (i := i) (x := (n * l.getD i 0).tmod W) (L := L) ⟨hlim, by omega⟩
    have n8 := p8'.put (l' := r.set i ((n * l.getD i 0).tmod W)) (by simp)
    have n7' : OwnV H.length (setH (setH H' v7 (ints (o.set i ((n * l.getD i 0).tdiv W)))) v8 (ints (r.set i ((n * l.getD i 0).tmod W)))) v7 (o.set i ((n * l.getD i 0).tdiv W)) := n7.keepQ fun b o m z e => setH_othB p8' fun o' z' y' e' => ha _ _ _ _ _ _ _ _ e e' rfl
    have g7 := fun L => n7'.sl.load (L := L) (i := i) (by simp; omega)
    have hg : (o.set i ((n * l.getD i 0).tdiv W)).getD i 0 = (n * l.getD i 0).tdiv W := by rw [setI_get (by omega), if_pos rfl]
    rw [hg] at g7
    have gv := fun L => hv'.load (L := L) (i := i) ht
    have hts : ((qL n W l).take (i + 1)).sum = ((qL n W l).take i).sum + (n * l.getD i 0).tdiv W := by rw [take_sum (by omega), qL_get ht]
    have hsb := take_bd (l := qL n W l) (fun j hj => by rw [qL_get (by omega)]; have := hq j (by omega); omega) (i := i) (by omega)
    have t7 := p7.ptr1 (i := i) (by omega)
    have t8 := p8.ptr1 (i := i) (by omega)
    have u7 := p7.lp1 (i := i) (by omega)
    have u8 := p8.lp1 (i := i) (by omega)
    generalize hmul : n * l.getD i 0 = mw at *
    simp (disch := omega) [f1, f6, f7, f8, f34, f35, f36, f9, av, gv, hmul, wrap_i64, a7, a8, st1, st2, g7, hts, t7, t8, u7, u8, -vstore]
    refine ⟨ht, by omega, setH_X (setH_X hx p7 (Nat.le_refl _)) p8' (Nat.le_refl _), _, n7', _, n8, by simp [ho], by simp [hr], fun c hc => ?_⟩
    rw [setI_get (by omega), setI_get (by omega)]
    by_cases e : c = i
    · subst e
      rw [if_pos rfl, if_pos rfl, qL_get ht, rL_get ht, hmul]; exact ⟨rfl, rfl⟩
    · rw [if_neg e, if_neg e]; exact hz c (by omega)
  have : i = l.length := by omega
  subst this
  have eo : o = qL n W l := list_ext (by omega) fun j hj => (hz j (by omega)).1
  have er : r = rL n W l := list_ext (by omega) fun j hj => (hz j (by omega)).2
  subst eo er
  rw [List.take_of_length_le (by omega)] at f9
  simp [f7, f8, f9]
  have hpos : 0 < l.length := by
    cases l with
    | nil => simp at w3; omega
    | cons a l => simp
  have hqb : ∀ j, j < (qL n W l).length → 0 ≤ (qL n W l).getD j 0 ∧ (qL n W l).getD j 0 ≤ 600000 := fun j hj => by
    rw [qL_get (by omega)]
    have := hq j (by omega)
    omega
  have hs0 := take_bd hqb (i := (qL n W l).length) (Nat.le_refl _)
  rw [List.take_length] at hs0
  generalize hS : (qL n W l, rL n W l) = S at *
  have hS1 : S.1 = qL n W l := by rw [← hS]
  have hS2 : S.2 = rL n W l := by rw [← hS]
  rw [← hS1] at p7 hqb
  rw [← hS2] at p8
  refine wLoop_up (n - (qL n W l).sum).toNat (fun k fr L H1 => (fr 7 = v7 ∧ fr 8 = v8 ∧ fr 64 = .int .i64 (n - (qL n W l).sum) ∧ fr 65 = .int .i64 k) ∧ L = [] ∧ HX H H1 ∧ OwnV H.length H1 v7 (quoN S k).1 ∧ OwnV H.length H1 v8 (quoN S k).2) ⟨by simp [f7, f8], rfl, hx, p7, p8⟩ ?_
  clear f7 f8 f9 f1 f6 f34 f35 f36 hx p7 p8 hz
  rintro k hk fr L H1 ⟨⟨f7, f8, f64, f65⟩, rfl, hx, p7, p8⟩
  have hl := @quoN_len S k
  have hl1 : (quoN S k).1.length = l.length := by rw [hl.1, hS1]; exact hlen
  have hl2 : (quoN S k).2.length = l.length := by rw [hl.2, hS2]; exact hlen2
  simp [f7, f8, f64, f65]
  by_cases ht : (k : Int) < n - (qL n W l).sum
  · simp [f7, f8, f64, f65, ht, p8.sl.len]
    refine wLoop_up (quoN S k).2.length (fun m fr L H' => (fr 7 = v7 ∧ fr 8 = v8 ∧ fr 64 = .int .i64 (n - (qL n W l).sum) ∧ fr 65 = .int .i64 k ∧ fr 67 = v8 ∧ fr 68 = .int .i64 ((quoN S k).2.length : Nat) ∧ fr 69 = .int .i64 m ∧ fr 12 = .int .i64 (bstN (quoN S k).2 m : Nat)) ∧ L = [] ∧ H' = H1) ⟨by simp [f7, f8, f64, f65, p8.sl.len, bstN], rfl, rfl⟩ ?_
    clear f7 f8 f64 f65
    rintro m hm fr L H' ⟨⟨f7, f8, f64, f65, f67, f68, f69, f12⟩, rfl, e0⟩
    have e0 := e0.symm
    subst e0
    have hb := @bstN_lt (quoN S k).2 m
    generalize hR : (quoN S k).2 = R at *
    simp [f7, f8, f64, f65, f67, f68, f69, f12]
    by_cases hm2 : m < R.length
    · have a1 := p8.sl.addr (i := (m : Int)) (by omega)
      have a2 := p8.sl.addr (i := (bstN R m : Int)) (by omega)
      simp only [Int.toNat_natCast] at a1 a2
      have g1 := fun L => p8.sl.load (L := L) (i := m) hm2
      have g2 := fun L => p8.sl.load (L := L) (i := bstN R m) (by omega)
      simp (disch := omega) [f7, f8, f64, f65, f67, f68, f69, f12, hm2, a1, a2, g1, g2]
      refine cond_dec (fun hg => ?_) fun hg => ?_
      · simp (disch := omega) [f7, f8, f64, f65, f67, f68, f69, f12, wrap_i64, bstN, hg]
      · simp (disch := omega) [f7, f8, f64, f65, f67, f68, f69, f12, wrap_i64, bstN, hg]
    · have : m = R.length := by omega
      subst this
      have hbl : bstN R R.length < l.length := by omega
      generalize hB : bstN R R.length = B at *
      have a7 := p7.sl.addr (i := (B : Int)) (by omega)
      have a8 := p8.sl.addr (i := (B : Int)) (by omega)
      simp only [Int.toNat_natCast] at a7 a8
      have g7 := fun L => p7.sl.load (L := L) (i := B) (by omega)
      have hbd := quoN_bd hqb (k := k) (i := B) (by rw [hS1]; omega)
      have st1 := fun L => p7.store (lim := lim) (i := B) (x := (quoN S k).1.getD B 0 + 1) (L := L) ⟨hlim, by omega⟩
      have n7 := p7.put (l' := (quoN S k).1.set B ((quoN S k).1.getD B 0 + 1)) (by simp)
      have p8' : OwnV H.length (setH H1 v7 (ints ((quoN S k).1.set B ((quoN S k).1.getD B 0 + 1)))) v8 R := p8.keepQ fun b o m z e => setH_othB p7 fun o' z' y' e' => ha _ _ _ _ _ _ _ _ e' e rfl
      have st2 := fun L => p8'.store (lim := lim) (i := B) (x := -1) (L := L) ⟨hlim, by omega⟩
      have n8 := p8'.put (l' := R.set B (-1)) (by simp)
      have n7' : OwnV H.length (setH (setH H1 v7 (ints ((quoN S k).1.set B ((quoN S k).1.getD B 0 + 1)))) v8 (ints (R.set B (-1)))) v7 ((quoN S k).1.set B ((quoN S k).1.getD B 0 + 1)) := n7.keepQ fun b o m z e => setH_othB p8' fun o' z' y' e' => ha _ _ _ _ _ _ _ _ e e' rfl
      have hn1 : (quoN S (k + 1)).1 = (quoN S k).1.set B ((quoN S k).1.getD B 0 + 1) := by simp only [quoN, quo1, hR, hB]
      have hn2 : (quoN S (k + 1)).2 = R.set B (-1) := by simp only [quoN, quo1, hR, hB]
      simp (disch := omega) [f7, f8, f64, f65, f67, f68, f69, f12, a7, a8, g7, st1, st2, wrap_i64, hn1, hn2, -vstore]
      exact ⟨setH_X (setH_X hx p7 (Nat.le_refl _)) p8' (Nat.le_refl _), n7', n8⟩
  · have hkk : k = (n - (qL n W l).sum).toNat := by omega
    simp [f7, f8, f64, f65, ht, p7.sl.stor]
    rw [← hkk] at hK
    exact hK _ _ hx p7
end
end Go.Proofs.Ytakbcmofgfjeiaa.Vm
