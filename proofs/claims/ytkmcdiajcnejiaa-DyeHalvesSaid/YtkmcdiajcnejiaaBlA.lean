/- Blends, pure: weights of shades; the one ascending list with given weights; sorting, bringing together, leaving out. -/
import Derived.Test.YtkmcdiajcnejiaaDyD
import Derived.Test.YtkmcdiajcnejiaaSqP
namespace Go.Proofs.Ytkmcdiajcnejiaa.Vm
open Go
set_option maxRecDepth 100000
set_option linter.unusedSimpArgs false
set_option linter.unusedVariables false
attribute [-simp] List.getD_eq_getElem?_getD
structure Prt where
  l : Int
  t : Int
  b : Int
  w : Int
  deriving Inhabited, DecidableEq
def Prt.cells (e : Prt) : List V := [.int .i64 e.l, .int .i64 e.t, .int .i64 e.b, .int .i64 e.w]
def prC : Cod Prt 4 := ⟨Prt.cells, fun _ => rfl⟩
def prB (e : Prt) : Bool := shdB e.l e.t e.b && decide (1 ≤ e.w ∧ e.w ≤ 1000)
def blP (l : List Prt) : Int := if 6 < l.length then 4 else if l.length = 0 then 1 else if allN (fun i => prB (l.getD i default)) l.length = false then 1 else 0
/-- the number of a shade -/
def numS (e : Prt) : Int := (e.l - 1) * 24 + e.t * 4 + e.b
def okS (e : Prt) : Prop := 1 ≤ e.l ∧ e.l ≤ 10 ∧ 0 ≤ e.t ∧ e.t ≤ 5 ∧ 0 ≤ e.b ∧ e.b ≤ 3
theorem okS_iff {e : Prt} : shdB e.l e.t e.b = true ↔ okS e := by simp [shdB, okS]
theorem numS_rng {e : Prt} (h : okS e) : 0 ≤ numS e ∧ numS e < 240 := by unfold okS at h; unfold numS; omega
theorem numS_inj {e f : Prt} (he : okS e) (hf : okS f) (h : numS e = numS f) : e.l = f.l ∧ e.t = f.t ∧ e.b = f.b := by
  unfold okS at he hf; unfold numS at h; omega
theorem numS_same {e f : Prt} (h : e.l = f.l ∧ e.t = f.t ∧ e.b = f.b) : numS e = numS f := by unfold numS; rw [h.1, h.2.1, h.2.2]
def wtN : List Prt → Int → Int
  | [], _ => 0
  | p :: A, i => (if numS p = i then p.w else 0) + wtN A i
theorem wtN_append {i : Int} {B : List Prt} : ∀ {A : List Prt}, wtN (A ++ B) i = wtN A i + wtN B i
  | [] => by simp [wtN]
  | p :: A => by
    have ih := wtN_append (i := i) (B := B) (A := A)
    simp only [List.cons_append, wtN, ih]; omega
theorem wtN_perm {i : Int} {A B : List Prt} (h : A.Perm B) : wtN A i = wtN B i := by
  induction h with
  | nil => rfl
  | cons x _ ih => simp only [wtN, ih]
  | swap x y l => simp only [wtN]; omega
  | trans _ _ ih1 ih2 => exact ih1.trans ih2
theorem wtN_none {i : Int} : ∀ {A : List Prt}, (∀ p, p ∈ A → numS p ≠ i) → wtN A i = 0
  | [], _ => rfl
  | p :: A, h => by
    have ih := wtN_none (i := i) (A := A) fun q hq => h q (List.mem_cons_of_mem _ hq)
    simp only [wtN, ih, if_neg (h p (List.mem_cons_self ..))]; rfl
def ltS (p q : Prt) : Prop := numS p < numS q
/-- an ascending list with shades that are right and weights that are not 0 -/
structure CanL (A : List Prt) : Prop where
  asc : A.Pairwise ltS
  ok : ∀ p, p ∈ A → okS p
  nz : ∀ p, p ∈ A → p.w ≠ 0
theorem CanL.nil : CanL [] := ⟨.nil, fun p hp => by simp at hp, fun p hp => by simp at hp⟩
theorem CanL.tail {p : Prt} {A : List Prt} (h : CanL (p :: A)) : CanL A :=
  ⟨(List.pairwise_cons.1 h.asc).2, fun q hq => h.ok q (List.mem_cons_of_mem _ hq), fun q hq => h.nz q (List.mem_cons_of_mem _ hq)⟩
theorem CanL.head {p : Prt} {A : List Prt} (h : CanL (p :: A)) {i : Int} (hi : i ≤ numS p) : wtN A i = 0 :=
  wtN_none fun q hq => by have := (List.pairwise_cons.1 h.asc).1 q hq; unfold ltS at this; omega
theorem can_uniq : ∀ {A B : List Prt}, CanL A → CanL B → (∀ i, wtN A i = wtN B i) → A = B
  | [], [], _, _, _ => rfl
  | [], b :: B, _, hB, h => by
    have := h (numS b)
    simp only [wtN, if_true, hB.head (Int.le_refl _)] at this
    exact absurd (by omega) (hB.nz b (List.mem_cons_self ..))
  | a :: A, [], hA, _, h => by
    have := h (numS a)
    simp only [wtN, if_true, hA.head (Int.le_refl _)] at this
    exact absurd (by omega) (hA.nz a (List.mem_cons_self ..))
  | a :: A, b :: B, hA, hB, h => by
    have na := hA.nz a (List.mem_cons_self ..)
    have nb := hB.nz b (List.mem_cons_self ..)
    have e : numS a = numS b := by
      apply Classical.byContradiction
      intro hne
      by_cases hlt : numS a < numS b
      · have := h (numS a)
        simp only [wtN, if_true, hA.head (Int.le_refl _), hB.head (Int.le_of_lt hlt), if_neg (show ¬ numS b = numS a by omega)] at this
        omega
      · have hgt : numS b < numS a := by omega
        have := h (numS b)
        simp only [wtN, if_true, hB.head (Int.le_refl _), hA.head (Int.le_of_lt hgt), if_neg hne] at this
        omega
    have hw : a.w = b.w := by
      have := h (numS a)
      simp only [wtN, if_true, hA.head (Int.le_refl _), if_pos e.symm, hB.head (Int.le_of_eq e)] at this
      omega
    obtain ⟨e1, e2, e3⟩ := numS_inj (hA.ok a (List.mem_cons_self ..)) (hB.ok b (List.mem_cons_self ..)) e
    have hab : a = b := by
      cases a; cases b
      simp only at e1 e2 e3 hw
      rw [e1, e2, e3, hw]
    subst hab
    rw [can_uniq hA.tail hB.tail fun i => by have := h i; simp only [wtN] at this; omega]
/-- the list of the weights of shades -/
def mkP (i : Nat) (w : Int) : Prt := ⟨(i / 24 : Nat) + 1, (i % 24 / 4 : Nat), (i % 4 : Nat), w⟩
theorem mkP_N {i : Nat} {w : Int} : numS (mkP i w) = i := by simp only [numS, mkP]; omega
theorem mkP_ok {i : Nat} {w : Int} (h : i < 240) : okS (mkP i w) := by simp only [okS, mkP]; omega
def canN (W : Int → Int) : Nat → List Prt
  | 0 => []
  | n + 1 => canN W n ++ if W (n : Int) ≠ 0 then [mkP n (W n)] else []
theorem canN_spec {W : Int → Int} : ∀ {n : Nat}, n ≤ 240 → CanL (canN W n) ∧ (∀ p, p ∈ canN W n → numS p < n) ∧ ∀ i, wtN (canN W n) i = if 0 ≤ i ∧ i < n then W i else 0
  | 0, _ => ⟨.nil, fun p hp => by simp [canN] at hp, fun i => by rw [if_neg (by omega)]; rfl⟩
  | n + 1, h => by
    obtain ⟨h1, h2, h3⟩ := canN_spec (W := W) (n := n) (by omega)
    unfold canN
    by_cases hw : W (n : Int) ≠ 0
    · rw [if_pos hw]
      refine ⟨⟨?_, ?_, ?_⟩, ?_, ?_⟩
      · rw [List.pairwise_append]
        refine ⟨h1.asc, List.pairwise_singleton _ _, fun a ha b hb => ?_⟩
        rw [List.mem_singleton.1 hb]
        have := h2 a ha
        unfold ltS
        rw [mkP_N]; exact this
      · intro p hp
        rcases List.mem_append.1 hp with hp | hp
        · exact h1.ok p hp
        · rw [List.mem_singleton.1 hp]; exact mkP_ok (by omega)
      · intro p hp
        rcases List.mem_append.1 hp with hp | hp
        · exact h1.nz p hp
        · rw [List.mem_singleton.1 hp]; exact hw
      · intro p hp
        rcases List.mem_append.1 hp with hp | hp
        · have := h2 p hp; omega
        · rw [List.mem_singleton.1 hp, mkP_N]; omega
      · intro i
        rw [wtN_append, h3 i]
        simp only [wtN, mkP_N]
        by_cases e : (n : Int) = i
        · rw [if_pos e, if_neg (by omega), if_pos (by omega), ← e]; simp [mkP]
        · rw [if_neg e]
          by_cases hi : 0 ≤ i ∧ i < n
          · rw [if_pos hi, if_pos (by omega)]; omega
          · rw [if_neg hi, if_neg (by omega)]; rfl
    · rw [if_neg hw, List.append_nil]
      refine ⟨h1, fun p hp => by have := h2 p hp; omega, fun i => ?_⟩
      rw [h3 i]
      have hw0 : W (n : Int) = 0 := Classical.not_not.1 hw
      by_cases e : i = n
      · subst e; rw [if_neg (by omega), if_pos (by omega), hw0]
      · by_cases hi : 0 ≤ i ∧ i < n
        · rw [if_pos hi, if_pos (by omega)]
        · rw [if_neg hi, if_neg (by omega)]
theorem wtN_far {A : List Prt} (h : ∀ p, p ∈ A → okS p) {i : Int} (hi : ¬ (0 ≤ i ∧ i < 240)) : wtN A i = 0 :=
  wtN_none fun p hp e => hi (by have := numS_rng (h p hp); omega)
/-- what is brought together -/
def colP (A : List Prt) : List Prt := canN (wtN A) 240
theorem col_uniq {A B : List Prt} (hA : ∀ p, p ∈ A → okS p) (hB : CanL B) (h : ∀ i, wtN B i = wtN A i) : B = colP A := by
  obtain ⟨h1, _, h3⟩ := canN_spec (W := wtN A) (n := 240) (Nat.le_refl _)
  refine can_uniq hB h1 fun i => ?_
  show _ = wtN (canN (wtN A) 240) i
  rw [h3 i, h i]
  by_cases hi : 0 ≤ i ∧ i < (240 : Nat)
  · rw [if_pos hi]
  · rw [if_neg hi, wtN_far hA (by omega)]
/-- a sorted list, shade by shade -/
def addW (p : Prt) (x : Int) : Prt := ⟨p.l, p.t, p.b, p.w + x⟩
def sameS (p q : Prt) : Bool := decide (p.l = q.l) && (decide (p.t = q.t) && decide (p.b = q.b))
def mg1 (M : List Prt) (p : Prt) : List Prt := if 0 < M.length ∧ sameS (M.getD (M.length - 1) default) p = true then M.set (M.length - 1) (addW (M.getD (M.length - 1) default) p.w) else M ++ [p]
def mgN (S : List Prt) : Nat → List Prt
  | 0 => []
  | k + 1 => mg1 (mgN S k) (S.getD k default)
theorem mg1_len {M : List Prt} {p : Prt} : (mg1 M p).length ≤ M.length + 1 := by
  unfold mg1; split <;> simp
theorem mgN_len {S : List Prt} : ∀ {k : Nat}, (mgN S k).length ≤ k
  | 0 => Nat.le_refl _
  | k + 1 => by
    have := mgN_len (S := S) (k := k)
    have := mg1_len (M := mgN S k) (p := S.getD k default)
    simp only [mgN]; omega
theorem last_split {M : List Prt} (h : 0 < M.length) : M = M.take (M.length - 1) ++ [M.getD (M.length - 1) default] := by
  have := List.take_append_drop (M.length - 1) M
  have e : M.drop (M.length - 1) = [M.getD (M.length - 1) default] := by
    rw [List.drop_eq_getElem_cons (by omega)]
    have : M.length - 1 + 1 = M.length := by omega
    rw [this, List.drop_length]
    congr 1
    rw [List.getD_eq_getElem?_getD, List.getElem?_eq_getElem (by omega)]; rfl
  rw [e] at this
  exact this.symm
theorem mg1_same {M : List Prt} {p q : Prt} (h : sameS q p = true) : mg1 (M ++ [q]) p = M ++ [addW q p.w] := by
  have e : (M ++ [q]).getD ((M ++ [q]).length - 1) default = q := by simp [List.getD_eq_getElem?_getD]
  unfold mg1
  rw [e, if_pos ⟨by simp, h⟩]
  simp
theorem mg1_new {M : List Prt} {p q : Prt} (h : sameS q p = false) : mg1 (M ++ [q]) p = M ++ [q] ++ [p] := by
  have e : (M ++ [q]).getD ((M ++ [q]).length - 1) default = q := by simp [List.getD_eq_getElem?_getD]
  unfold mg1
  rw [e, if_neg (by rw [h]; simp)]
theorem mg1_nil {p : Prt} : mg1 [] p = [p] := by simp [mg1]
/-- what stands when the first k have been brought together -/
structure MgR (S : List Prt) (k : Nat) (M : List Prt) : Prop where
  asc : M.Pairwise ltS
  ok : ∀ p, p ∈ M → okS p
  wt : ∀ i, wtN M i = wtN (S.take k) i
  emp : M = [] → k = 0
  top : ∀ p, p ∈ M → 0 < k ∧ numS p ≤ numS (S.getD (k - 1) default)
theorem mgN_spec {S : List Prt} (hS : ∀ i, i < S.length → okS (S.getD i default)) (hs : ∀ i j, i < j → j < S.length → numS (S.getD i default) ≤ numS (S.getD j default)) : ∀ {k : Nat}, k ≤ S.length → MgR S k (mgN S k)
  | 0, _ => ⟨.nil, fun p hp => by simp [mgN] at hp, fun i => by simp [mgN], fun _ => rfl, fun p hp => by simp [mgN] at hp⟩
  | k + 1, hk => by
    have ih := mgN_spec hS hs (k := k) (by omega)
    have htk : S.take (k + 1) = S.take k ++ [S.getD k default] := by
      rw [List.take_add_one, List.getElem?_eq_getElem (by omega), List.getD_eq_getElem?_getD, List.getElem?_eq_getElem (by omega)]; rfl
    have hok := hS k (by omega)
    generalize hp : S.getD k default = p at *
    simp only [mgN, hp]
    have e1 : k + 1 - 1 = k := by omega
    by_cases h0 : 0 < (mgN S k).length
    · have hsp := last_split h0
      generalize (mgN S k).take ((mgN S k).length - 1) = M at hsp
      generalize (mgN S k).getD ((mgN S k).length - 1) default = q at hsp
      generalize mgN S k = N at *
      subst hsp
      obtain ⟨hk0, hqt⟩ := ih.top q (by simp)
      have hqk : numS q ≤ numS p := by
        have := hs (k - 1) k (by omega) (by omega)
        rw [hp] at this; omega
      have hqo := ih.ok q (by simp)
      obtain ⟨a1, a2, a3⟩ := List.pairwise_append.1 ih.asc
      cases hsm : sameS q p with
      | true =>
        rw [mg1_same hsm]
        have hq3 : q.l = p.l ∧ q.t = p.t ∧ q.b = p.b := by simpa [sameS] using hsm
        have hNe : numS (addW q p.w) = numS q := rfl
        refine ⟨?_, ?_, ?_, fun h => by simp at h, ?_⟩
        · refine List.pairwise_append.2 ⟨a1, List.pairwise_singleton _ _, fun a ha b hb => ?_⟩
          rw [List.mem_singleton.1 hb]
          have := a3 a ha q (by simp)
          unfold ltS at this ⊢; rw [hNe]; exact this
        · intro x hx
          rcases List.mem_append.1 hx with hx | hx
          · exact ih.ok x (List.mem_append_left _ hx)
          · rw [List.mem_singleton.1 hx]; exact hqo
        · intro i
          have := ih.wt i
          have e2 := wtN_append (A := S.take k) (B := [p]) (i := i)
          have e3 := wtN_append (A := M) (B := [q]) (i := i)
          have e4 := wtN_append (A := M) (B := [addW q p.w]) (i := i)
          rw [htk, e2, e4, ← this, e3]
          simp only [wtN, hNe]
          have hpq : numS p = numS q := (numS_same hq3).symm
          rw [hpq]
          by_cases e : numS q = i
          · simp only [if_pos e, addW]; omega
          · simp only [if_neg e]; omega
        · intro x hx
          refine ⟨by omega, ?_⟩
          rw [e1, hp]
          rcases List.mem_append.1 hx with hx | hx
          · have := a3 x hx q (by simp); unfold ltS at this; omega
          · rw [List.mem_singleton.1 hx, hNe]; exact hqk
      | false =>
        rw [mg1_new hsm]
        have hlt : numS q < numS p := by
          apply Classical.byContradiction
          intro hn
          have e : numS q = numS p := by omega
          have := numS_inj hqo hok e
          simp [sameS, this] at hsm
        refine ⟨?_, ?_, ?_, fun h => by simp at h, ?_⟩
        · refine List.pairwise_append.2 ⟨ih.asc, List.pairwise_singleton _ _, fun a ha b hb => ?_⟩
          rw [List.mem_singleton.1 hb]
          unfold ltS
          rcases List.mem_append.1 ha with ha | ha
          · have := a3 a ha q (by simp); unfold ltS at this; omega
          · rw [List.mem_singleton.1 ha]; exact hlt
        · intro x hx
          rcases List.mem_append.1 hx with hx | hx
          · exact ih.ok x hx
          · rw [List.mem_singleton.1 hx]; exact hok
        · intro i
          have e2 := wtN_append (A := S.take k) (B := [p]) (i := i)
          rw [htk, e2, wtN_append, ih.wt i]
        · intro x hx
          refine ⟨by omega, ?_⟩
          rw [e1, hp]
          rcases List.mem_append.1 hx with hx | hx
          · rcases List.mem_append.1 hx with hx | hx
            · have := a3 x hx q (by simp); unfold ltS at this; omega
            · rw [List.mem_singleton.1 hx]; exact hqk
          · rw [List.mem_singleton.1 hx]; exact Int.le_refl _
    · have hN : mgN S k = [] := List.length_eq_zero_iff.1 (by omega)
      have hk0 := ih.emp hN
      subst hk0
      rw [hN, mg1_nil]
      refine ⟨List.pairwise_singleton _ _, fun x hx => by rw [List.mem_singleton.1 hx]; exact hok, fun i => ?_, fun h => by simp at h, fun x hx => ⟨by omega, ?_⟩⟩
      · rw [htk]; simp
      · rw [List.mem_singleton.1 hx, e1, hp]; exact Int.le_refl _
def nzP (p : Prt) : Bool := !decide (p.w = 0)
theorem wtN_filter {i : Int} : ∀ {A : List Prt}, wtN (A.filter nzP) i = wtN A i
  | [] => rfl
  | p :: A => by
    have ih := wtN_filter (i := i) (A := A)
    by_cases h : p.w = 0
    · have : nzP p = false := by simp [nzP, h]
      rw [List.filter_cons_of_neg (by rw [this]; simp), ih]
      simp only [wtN, h]; split <;> omega
    · have : nzP p = true := by simp [nzP, h]
      rw [List.filter_cons_of_pos this]
      simp only [wtN, ih]
/-- collect: sorted, brought together, without what weighs nothing -/
theorem collect_eq {A S : List Prt} (hA : ∀ p, p ∈ A → okS p) (hp : S.Perm A) (hs : ∀ i j, i < j → j < S.length → numS (S.getD i default) ≤ numS (S.getD j default)) : (mgN S S.length).filter nzP = colP A := by
  have hS : ∀ i, i < S.length → okS (S.getD i default) := fun i hi => by
    have : S.getD i default = S[i] := by rw [List.getD_eq_getElem?_getD, List.getElem?_eq_getElem hi]; rfl
    rw [this]
    exact hA _ (hp.mem_iff.1 (List.getElem_mem hi))
  have h := mgN_spec hS hs (Nat.le_refl _)
  refine col_uniq hA ⟨h.asc.filter _, fun p hp => h.ok p (List.mem_filter.1 hp).1, fun p hp => ?_⟩ fun i => ?_
  · have := (List.mem_filter.1 hp).2
    simpa [nzP] using this
  · rw [wtN_filter, h.wt i, List.take_length, wtN_perm hp]
end Go.Proofs.Ytkmcdiajcnejiaa.Vm
