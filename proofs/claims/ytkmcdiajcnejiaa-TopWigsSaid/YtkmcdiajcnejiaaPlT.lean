/- Plays, pure: giving each wearing the first wig that is free again needs as many as the fullest minute. -/
import Derived.Test.YtkmcdiajcnejiaaPlS
namespace Go.Proofs.Ytkmcdiajcnejiaa.Vm
open Go
set_option maxRecDepth 100000
set_option linter.unusedSimpArgs false
set_option linter.unusedVariables false
attribute [-simp] List.getD_eq_getElem?_getD
/-- how many of m .. m + n - 1 pass -/
def cnI (P : Nat → Bool) (m : Nat) : Nat → Nat
  | 0 => 0
  | n + 1 => cnI P m n + if P (m + n) = true then 1 else 0
theorem cnI_congr {P Q : Nat → Bool} {m : Nat} : ∀ {n : Nat}, (∀ j, m ≤ j → j < m + n → P j = Q j) → cnI P m n = cnI Q m n
  | 0, _ => rfl
  | n + 1, h => by simp only [cnI, cnI_congr (n := n) fun j h1 h2 => h j h1 (by omega), h (m + n) (by omega) (by omega)]
theorem cnI_none {P : Nat → Bool} {m : Nat} : ∀ {n : Nat}, (∀ j, m ≤ j → j < m + n → P j = false) → cnI P m n = 0
  | 0, _ => rfl
  | n + 1, h => by simp [cnI, cnI_none (n := n) fun j h1 h2 => h j h1 (by omega), h (m + n) (by omega) (by omega)]
theorem cnI_add {P : Nat → Bool} {m a : Nat} : ∀ {b : Nat}, cnI P m (a + b) = cnI P m a + cnI P (m + a) b
  | 0 => rfl
  | b + 1 => by rw [← Nat.add_assoc]; simp only [cnI, cnI_add (b := b), Nat.add_assoc]
theorem cnI_one {P Q : Nat → Bool} {x : Nat} (hx : P x = false) (hq : Q x = true) (h : ∀ v, v ≠ x → P v = Q v) : ∀ {n : Nat}, cnI Q 0 n = cnI P 0 n + if x < n then 1 else 0
  | 0 => by simp [cnI]
  | n + 1 => by
    have ih := cnI_one hx hq h (n := n)
    simp only [cnI, Nat.zero_add, ih]
    by_cases e : n = x
    · subst e; simp [hx, hq]
    · rw [h n e]
      have hx3 : (x < n + 1) ↔ (x < n) := by omega
      simp only [hx3]; omega
theorem cnI_all {P : Nat → Bool} : ∀ {n : Nat}, (∀ v, v < n → P v = true) → cnI P 0 n = n
  | 0, _ => rfl
  | n + 1, h => by simp [cnI, cnI_all (n := n) fun v hv => h v (by omega), h n (by omega)]
theorem cnI_list {α : Type} [Inhabited α] {P : α → Bool} {l : List α} : ∀ {n : Nat}, n ≤ l.length → cnI (fun j => P (l.getD j default)) 0 n = (l.take n).countP P
  | 0, _ => by simp [cnI]
  | n + 1, h => by
    have ih := cnI_list (P := P) (l := l) (n := n) (by omega)
    have e : l.take (n + 1) = l.take n ++ [l.getD n default] := by
      rw [List.take_add_one, List.getElem?_eq_getElem (by omega), getD_of (by omega)]; rfl
    rw [e, List.countP_append, ← ih]
    simp only [cnI, Nat.zero_add, List.countP_cons, List.countP_nil]
/-- a wearing with its number -/
structure Wg where
  a : Int
  s : Int
  f : Int
  t : Int
  n : Int
  deriving Inhabited
def Wg.wr (x : Wg) : Wr := ⟨x.a, x.s, x.f, x.t⟩
def mkWg (w : Wr) (n : Nat) : Wg := ⟨w.a, w.s, w.f, w.t, n⟩
theorem mkWg_wr {w : Wr} {n : Nat} : (mkWg w n).wr = w := rfl
def numN (W : List Wr) : Nat → List Wg
  | 0 => []
  | n + 1 => numN W n ++ [mkWg (W.getD n default) n]
theorem numN_len {W : List Wr} : ∀ {n : Nat}, (numN W n).length = n
  | 0 => rfl
  | n + 1 => by simp [numN, numN_len]
theorem numN_at {W : List Wr} : ∀ {n i : Nat}, i < n → (numN W n).getD i default = mkWg (W.getD i default) i
  | n + 1, i, h => by
    rw [numN]
    by_cases e : i = n
    · subst e
      rw [List.getD_eq_getElem?_getD, List.getElem?_append_right (by rw [numN_len]; omega), numN_len]; simp
    · rw [List.getD_eq_getElem?_getD, List.getElem?_append_left (by rw [numN_len]; omega), ← List.getD_eq_getElem?_getD]
      exact numN_at (by omega)
theorem numN_wr {W : List Wr} : ∀ {n : Nat}, n ≤ W.length → (numN W n).map Wg.wr = W.take n
  | 0, _ => by simp [numN]
  | n + 1, h => by
    rw [numN, List.map_append, numN_wr (by omega), List.take_add_one, List.getElem?_eq_getElem (by omega)]
    simp only [List.map_cons, List.map_nil, mkWg_wr, Option.toList_some]
    rw [getD_of (by omega)]
theorem numN_n {W : List Wr} : ∀ {n : Nat}, (numN W n).map Wg.n = (List.range n).map Int.ofNat
  | 0 => rfl
  | n + 1 => by rw [numN, List.map_append, numN_n, List.range_succ, List.map_append]; rfl
def cmpZ (a b : Int) : Int := if a < b then -1 else if b < a then 1 else 0
def wgCf (x y : Wg) : Int := if cmpZ x.s y.s ≠ 0 then cmpZ x.s y.s else if cmpZ x.f y.f ≠ 0 then cmpZ x.f y.f else cmpZ x.n y.n
theorem wgCf_le {x y : Wg} : leC wgCf x y ↔ x.s < y.s ∨ (x.s = y.s ∧ (x.f < y.f ∨ (x.f = y.f ∧ x.n ≤ y.n))) := by
  unfold leC wgCf cmpZ
  repeat' split
  all_goals constructor <;> intro h <;> omega
theorem wgCf_ordr : Ordr wgCf := ⟨fun x y z h1 h2 => by rw [wgCf_le] at *; omega, fun x y => by rw [wgCf_le, wgCf_le]; omega⟩
/-- the wearings of a play with their numbers, in order -/
structure ArrW (p : Ply) (A : List Wg) : Prop where
  perm : A.Perm (numN p.W p.W.length)
  sort : SortR wgCf 0 A.length A
section
variable {p : Ply} {A : List Wg}
theorem ArrW.len (h : ArrW p A) : A.length = p.W.length := by rw [h.perm.length_eq, numN_len]
theorem ArrW.wr (h : ArrW p A) : (A.map Wg.wr).Perm p.W := by
  have := h.perm.map Wg.wr
  rwa [numN_wr (Nat.le_refl _), List.take_length] at this
theorem ArrW.ns (h : ArrW p A) : (A.map Wg.n).Perm ((List.range p.W.length).map Int.ofNat) := by
  have := h.perm.map Wg.n
  rwa [numN_n] at this
theorem ArrW.at (h : ArrW p A) {j : Nat} (hj : j < A.length) : ∃ i : Nat, i < p.W.length ∧ A.getD j default = mkWg (p.W.getD i default) i := by
  have hm : A.getD j default ∈ numN p.W p.W.length := by rw [← h.perm.mem_iff, getD_of hj]; exact List.getElem_mem hj
  obtain ⟨i, hi, e⟩ := List.mem_iff_getElem.1 hm
  have hi2 := hi
  rw [numN_len] at hi2
  refine ⟨i, hi2, ?_⟩
  rw [← e, ← numN_at hi2, getD_of hi]
theorem ArrW.of (h : ArrW p A) {i : Nat} (hi : i < p.W.length) : ∃ j, j < A.length ∧ A.getD j default = mkWg (p.W.getD i default) i := by
  have hm : mkWg (p.W.getD i default) i ∈ A := by
    rw [h.perm.mem_iff, ← numN_at hi, getD_of (by rw [numN_len]; exact hi)]; exact List.getElem_mem _
  obtain ⟨j, hj, e⟩ := List.mem_iff_getElem.1 hm
  exact ⟨j, hj, by rw [getD_of hj, e]⟩
theorem ArrW.inj (h : ArrW p A) {j k : Nat} (hj : j < A.length) (hk : k < A.length) (e : (A.getD j default).n = (A.getD k default).n) : j = k := by
  have hn : (A.map Wg.n).Nodup := by
    rw [h.ns.nodup_iff]
    refine List.pairwise_map.2 (List.Pairwise.imp (fun {a b} hab e => ?_) (List.nodup_range (n := p.W.length)))
    exact hab (Int.ofNat.inj e)
  rw [getD_of hj, getD_of hk] at e
  have h1 : (A.map Wg.n)[j]'(by simpa using hj) = (A.map Wg.n)[k]'(by simpa using hk) := by simpa using e
  have hp := List.pairwise_iff_getElem.1 hn
  rcases Nat.lt_trichotomy j k with c | c | c
  · exact absurd h1 (hp j k _ _ c)
  · exact c
  · exact absurd h1.symm (hp k j _ _ c)
theorem ArrW.mem (h : ArrW p A) {w : Wr} (hw : w ∈ p.W) : ∃ j, j < A.length ∧ (A.getD j default).wr = w := by
  rw [← h.wr.mem_iff] at hw
  obtain ⟨x, hx, e⟩ := List.mem_map.1 hw
  obtain ⟨j, hj, e2⟩ := List.mem_iff_getElem.1 hx
  exact ⟨j, hj, by rw [getD_of hj, e2, e]⟩
theorem ArrW.le (h : ArrW p A) {j k : Nat} (hjk : j < k) (hk : k < A.length) : (A.getD j default).s < (A.getD k default).s ∨ ((A.getD j default).s = (A.getD k default).s ∧ (A.getD j default).f ≤ (A.getD k default).f) := by
  have := wgCf_le.1 (h.sort j k (Nat.zero_le _) hjk hk)
  omega
def atB (A : List Wg) (r t : Int) (j : Nat) : Bool := decide ((A.getD j default).f ≤ t) && decide (t < (A.getD j default).t + r)
def upB (A : List Wg) (r t : Int) (j : Nat) : Bool := decide (t < (A.getD j default).t + r)
/-- a run of one size: m .. m + d - 1 -/
structure RunW (A : List Wg) (m d : Nat) : Prop where
  pos : 0 < d
  le : m + d ≤ A.length
  eq : ∀ j, m ≤ j → j < m + d → (A.getD j default).s = (A.getD m default).s
  ne : m + d < A.length → (A.getD (m + d) default).s ≠ (A.getD m default).s
  pr : 0 < m → (A.getD (m - 1) default).s ≠ (A.getD m default).s
theorem RunW.only (h : ArrW p A) {m d : Nat} (hr : RunW A m d) {j : Nat} (hj : j < A.length) (hs : (A.getD j default).s = (A.getD m default).s) : m ≤ j ∧ j < m + d := by
  have := hr.pos
  have := hr.le
  constructor
  · apply Classical.byContradiction
    intro hn
    have e1 := hr.pr (by omega)
    have e2 := h.le (j := m - 1) (k := m) (by omega) (by omega)
    by_cases e : j = m - 1
    · subst e; exact e1 hs
    · have e3 := h.le (j := j) (k := m - 1) (by omega) (by omega)
      omega
  · apply Classical.byContradiction
    intro hn
    have e1 := hr.ne (by omega)
    have e2 := h.le (j := m + d - 1) (k := m + d) (by omega) (by omega)
    have e4 := hr.eq (m + d - 1) (by omega) (by omega)
    by_cases e : j = m + d
    · subst e; exact e1 hs
    · have e3 := h.le (j := m + d) (k := j) (by omega) (by omega)
      omega
theorem RunW.crw (h : ArrW p A) {m d : Nat} (hr : RunW A m d) {t : Int} : crw p (A.getD m default).s t = cnI (atB A p.rd t) m d := by
  have e1 : Go.Proofs.Ytkmcdiajcnejiaa.Vm.crw p (A.getD m default).s t = cnI (fun j => inB p (A.getD m default).s t (A.getD j default).wr) 0 A.length := by
    have := cnI_list (l := A) (P := fun x : Wg => inB p (A.getD m default).s t x.wr) (Nat.le_refl _)
    rw [this, List.take_length, Go.Proofs.Ytkmcdiajcnejiaa.Vm.crw, ← h.wr.countP_eq, List.countP_map]; rfl
  have hle := hr.le
  have e2 : A.length = m + (d + (A.length - (m + d))) := by omega
  rw [e1, e2, cnI_add, cnI_add, cnI_none (m := 0), cnI_none (m := 0 + m + d)]
  · rw [Nat.zero_add, Nat.zero_add, Nat.add_zero]
    refine cnI_congr fun j h1 h2 => ?_
    have := hr.eq j h1 h2
    simp [inB, atB, Wg.wr, this]
  · intro j h1 h2
    cases hb : inB p (A.getD m default).s t (A.getD j default).wr with
    | false => rfl
    | true =>
      have := hr.only h (j := j) (by omega) (inB_iff.1 hb).1
      omega
  · intro j h1 h2
    cases hb : inB p (A.getD m default).s t (A.getD j default).wr with
    | false => rfl
    | true =>
      have := hr.only h (j := j) (by omega) (inB_iff.1 hb).1
      omega
/-- amid a run: the wigs that there are, and from when each is free -/
structure GrS (A : List Wg) (r : Int) (m d u : Nat) (F : List Int) (g : Nat → Int) : Prop where
  cnt : ∀ t, (∀ j, m ≤ j → j < m + d → (A.getD j default).f ≤ t) → F.countP (fun x => decide (t < x)) = cnI (upB A r t) m d
  hi : ∀ j, m ≤ j → j < m + d → cnI (atB A r (A.getD j default).f) m d ≤ F.length
  ex : F.length = 0 ∨ ∃ j, (m ≤ j ∧ j < m + d) ∧ F.length ≤ cnI (atB A r (A.getD j default).f) m d
  lo : ∀ j, j < m → 0 ≤ g j ∧ g j < u
  fr : ∀ j, m ≤ j → j < m + d → ∃ q : Nat, q < F.length ∧ g j = u + q ∧ (A.getD j default).t + r ≤ F.getD q 0
  nc : ∀ j k, j < k → k < m + d → g j = g k → (A.getD j default).s = (A.getD k default).s ∧ (A.getD j default).t + r ≤ (A.getD k default).f
  su : ∀ v : Nat, v < u + F.length → ∃ j, j < m + d ∧ g j = v
theorem GrS.zero {r : Int} {g : Nat → Int} : GrS A r 0 0 0 [] g :=
  ⟨fun t _ => rfl, fun j h1 h2 => by omega, Or.inl rfl, fun j h => by omega, fun j h1 h2 => by omega, fun j k h1 h2 => by omega, fun v h => by simp at h⟩
theorem GrS.next {r : Int} {m d u : Nat} {F : List Int} {g : Nat → Int} (h : GrS A r m d u F g) : GrS A r (m + d) 0 (u + F.length) [] g :=
  ⟨fun t _ => rfl, fun j h1 h2 => by omega, Or.inl rfl, fun j hj => by
    by_cases e : j < m
    · have := h.lo j e; omega
    · obtain ⟨q, h1, h2, _⟩ := h.fr j (by omega) hj
      omega, fun j h1 h2 => by omega, fun j k h1 h2 => h.nc j k h1 (by omega), fun v hv => h.su v (by simpa using hv)⟩
def padF (F : List Int) (q : Nat) : List Int := if q = F.length then F ++ [0] else F
theorem GrS.step (hA : ArrW p A) {m d u q : Nat} {F : List Int} {g g' : Nat → Int} (h : GrS A p.rd m d u F g) (hr : 0 ≤ p.rd) (hd : m + d < A.length) (hsz : (A.getD (m + d) default).s = (A.getD m default).s)
    (hsz2 : ∀ j, m ≤ j → j < m + d → (A.getD j default).s = (A.getD m default).s) (hft : (A.getD (m + d) default).f < (A.getD (m + d) default).t)
    (hq : q ≤ F.length) (hlo : ∀ i, i < q → (A.getD (m + d) default).f < F.getD i 0) (hhi : q < F.length → F.getD q 0 ≤ (A.getD (m + d) default).f)
    (hg : g' (m + d) = u + q) (hg2 : ∀ j, j < m + d → g' j = g j) : GrS A p.rd m (d + 1) u ((padF F q).set q ((A.getD (m + d) default).t + p.rd)) g' := by
  generalize hw : A.getD (m + d) default = w at *
  have hle : ∀ j, m ≤ j → j < m + d → (A.getD j default).f ≤ w.f := fun j h1 h2 => by
    have := hA.le (j := j) (k := m + d) h2 hd
    rw [hw] at this
    have := hsz2 j h1 h2
    omega
  have hpl : (padF F q).length = if q = F.length then F.length + 1 else F.length := by unfold padF; split <;> simp
  have hql : q < (padF F q).length := by rw [hpl]; split <;> omega
  have hFl : F.length ≤ (padF F q).length := by rw [hpl]; split <;> omega
  have hpg : ∀ i, i < F.length → (padF F q).getD i 0 = F.getD i 0 := fun i hi => by
    unfold padF
    split
    · simp only [List.getD_eq_getElem?_getD]; rw [List.getElem?_append_left hi]
    · rfl
  have cset : ∀ t, w.f ≤ t → ((padF F q).set q (w.t + p.rd)).countP (fun x => decide (t < x)) = F.countP (fun x => decide (t < x)) + if t < w.t + p.rd then 1 else 0 := fun t ht => by
    rw [List.countP_set hql]
    by_cases e : q = F.length
    · have e2 : padF F q = F ++ [0] := by unfold padF; rw [if_pos e]
      have e3 : (padF F q)[q] = 0 := by
        have : (padF F q)[q]? = some 0 := by rw [e2, List.getElem?_append_right (by omega), e]; simp
        exact (List.getElem?_eq_some_iff.1 this).2
      rw [e3, e2, List.countP_append]
      simp only [List.countP_cons, List.countP_nil, decide_eq_true_eq]
      split <;> split <;> omega
    · have e2 : padF F q = F := by unfold padF; rw [if_neg e]
      have hq2 : q < F.length := by omega
      have e3 : ¬ t < (padF F q)[q] := by
        have h1 := hhi hq2
        have h2 : (padF F q)[q] = F.getD q 0 := by rw [← hpg q hq2, List.getD_eq_getElem?_getD, List.getElem?_eq_getElem hql]; rfl
        omega
      rw [if_neg (by simpa using e3), e2]
      simp only [decide_eq_true_eq]
      omega
  have hcntw : ∀ t, w.f ≤ t → ((padF F q).set q (w.t + p.rd)).countP (fun x => decide (t < x)) = cnI (upB A p.rd t) m (d + 1) := fun t ht => by
    rw [cset t ht, h.cnt t fun j h1 h2 => by have := hle j h1 h2; omega]
    simp only [cnI, upB, hw, decide_eq_true_eq]
  have hat : ∀ t, w.f ≤ t → cnI (atB A p.rd t) m (d + 1) = cnI (upB A p.rd t) m (d + 1) := fun t ht => cnI_congr fun j h1 h2 => by
    have : (A.getD j default).f ≤ t := by
      by_cases e : j = m + d
      · subst e; rw [hw]; exact ht
      · have := hle j h1 (by omega); omega
    simp [atB, upB, this]
  have hset : ∀ i, i < F.length → F.getD i 0 ≤ ((padF F q).set q (w.t + p.rd)).getD i 0 := fun i hi => by
    by_cases e : i = q
    · subst e
      have := hhi hi
      rw [List.getD_eq_getElem?_getD (l := (padF F i).set i (w.t + p.rd)), List.getElem?_set_self hql, Option.getD_some]; omega
    · rw [List.getD_eq_getElem?_getD (l := (padF F q).set q (w.t + p.rd)), List.getElem?_set_ne (fun e' => e e'.symm), ← List.getD_eq_getElem?_getD, hpg i hi]; exact Int.le_refl _
  have hself : ((padF F q).set q (w.t + p.rd)).getD q 0 = w.t + p.rd := by rw [List.getD_eq_getElem?_getD, List.getElem?_set_self hql]; rfl
  refine ⟨fun t ht => hcntw t (by have := ht (m + d) (by omega) (by omega); rw [hw] at this; exact this), fun j h1 h2 => ?_, ?_, fun j hj => by rw [hg2 j (by omega)]; exact h.lo j hj, fun j h1 h2 => ?_, fun j k h1 h2 he => ?_, fun v hv => ?_⟩
  · rw [List.length_set]
    by_cases e : w.f ≤ (A.getD j default).f
    · rw [hat _ e, ← hcntw _ e]
      refine Nat.le_trans List.countP_le_length ?_
      rw [List.length_set]; exact Nat.le_refl _
    · have hjd : j < m + d := by
        apply Classical.byContradiction
        intro hn
        have : j = m + d := by omega
        subst this; rw [hw] at e; omega
      have := h.hi j h1 hjd
      have e0 : atB A p.rd (A.getD j default).f (m + d) = false := by simp only [atB, hw]; simp [e]
      simp only [cnI, e0, Bool.false_eq_true, if_false]
      omega
  · right
    rw [List.length_set]
    by_cases e : q = F.length
    · refine ⟨m + d, by omega, ?_⟩
      rw [hw, hat _ (Int.le_refl _), ← hcntw _ (Int.le_refl _), cset _ (Int.le_refl _), if_pos (by omega), hpl, if_pos e]
      have : F.countP (fun x => decide (w.f < x)) = F.length := by
        rw [List.countP_eq_length]
        intro x hx
        obtain ⟨i, hi, e2⟩ := List.mem_iff_getElem.1 hx
        have := hlo i (by omega)
        rw [List.getD_eq_getElem?_getD, List.getElem?_eq_getElem hi, Option.getD_some, e2] at this
        simpa using this
      omega
    · rcases h.ex with h0 | ⟨j, hj, hx⟩
      · omega
      · refine ⟨j, by omega, ?_⟩
        rw [hpl, if_neg e]
        simp only [cnI]; omega
  · rw [List.length_set]
    by_cases e : j = m + d
    · subst e
      exact ⟨q, hql, hg, by rw [hw, hself]; exact Int.le_refl _⟩
    · obtain ⟨q', a1, a2, a3⟩ := h.fr j h1 (by omega)
      exact ⟨q', by omega, by rw [hg2 j (by omega)]; exact a2, Int.le_trans a3 (hset q' a1)⟩
  · by_cases e : k = m + d
    · subst e
      rw [hg, hg2 j h1] at he
      have hjm : m ≤ j := by
        apply Classical.byContradiction
        intro hn
        have := h.lo j (by omega)
        omega
      obtain ⟨q', a1, a2, a3⟩ := h.fr j hjm h1
      have : q' = q := by omega
      subst this
      have := hhi a1
      rw [hw]
      exact ⟨by rw [hsz2 j hjm h1, hsz], by omega⟩
    · rw [hg2 j (by omega), hg2 k (by omega)] at he
      exact h.nc j k h1 (by omega) he
  · rw [List.length_set] at hv
    by_cases e : v < u + F.length
    · obtain ⟨j, a1, a2⟩ := h.su v e
      exact ⟨j, by omega, by rw [hg2 j a1]; exact a2⟩
    · rw [hpl] at hv
      by_cases e2 : q = F.length
      · rw [if_pos e2] at hv
        exact ⟨m + d, by omega, by rw [hg]; omega⟩
      · rw [if_neg e2] at hv; omega
theorem GrS.full (hA : ArrW p A) {m d u : Nat} {F : List Int} {g : Nat → Int} (h : GrS A p.rd m d u F g) (hr : RunW A m d) : F.length = mxS p (A.getD m default).s := by
  refine Nat.le_antisymm ?_ (mxS_le fun w hw hs => ?_)
  · rcases h.ex with h0 | ⟨j, hj, hx⟩
    · omega
    · refine Nat.le_trans hx ?_
      rw [← hr.crw hA]; exact crw_le
  · obtain ⟨j, hj, e⟩ := hA.mem hw
    have hs2 : (A.getD j default).s = (A.getD m default).s := by rw [← hs, ← e]; rfl
    have hjr := hr.only hA hj hs2
    rw [hr.crw hA, ← e]
    exact h.hi j hjr.1 hjr.2
/-- how many the sizes ahead of a run need -/
def befN (p : Ply) (A : List Wg) (m : Nat) : Nat := leN p (if m = 0 then 0 else (A.getD (m - 1) default).s.toNat)
theorem befN_step (hA : ArrW p A) (hw : ∀ w, w ∈ p.W → 1 ≤ w.s ∧ w.s ≤ 99) {m d : Nat} (hr : RunW A m d) : befN p A (m + d) = befN p A m + mxS p (A.getD m default).s := by
  have hpos := hr.pos
  have hle := hr.le
  have hs : ∀ j, j < A.length → 1 ≤ (A.getD j default).s ∧ (A.getD j default).s ≤ 99 := fun j hj => by
    obtain ⟨i, hi, e⟩ := hA.at hj
    rw [e]
    have := hw (p.W.getD i default) (by rw [getD_of hi]; exact List.getElem_mem hi)
    exact this
  have e1 := hr.eq (m + d - 1) (by omega) (by omega)
  have hsm := hs m (by omega)
  unfold befN
  rw [if_neg (by omega), e1]
  generalize hz : (A.getD m default).s = z at *
  obtain ⟨n, hn⟩ : ∃ n : Nat, z = (n + 1 : Nat) := ⟨z.toNat - 1, by omega⟩
  have : z.toNat = n + 1 := by omega
  rw [this, leN_step, ← hn]
  congr 1
  refine leN_gap ?_ fun w hw2 => ?_
  · split
    · omega
    · have := hA.le (j := m - 1) (k := m) (by omega) (by omega)
      have := hr.pr (by omega)
      rw [hz] at *
      omega
  · obtain ⟨j, hj, e⟩ := hA.mem hw2
    have es : (A.getD j default).s = w.s := by rw [← e]; rfl
    by_cases hjm : j < m
    · rw [if_neg (by omega)]
      by_cases ej : j = m - 1
      · subst ej; have := hs (m - 1) (by omega); omega
      · have := hA.le (j := j) (k := m - 1) (by omega) (by omega)
        have := hs (m - 1) (by omega); omega
    · by_cases ej : j = m
      · subst ej; omega
      · have := hA.le (j := m) (k := j) (by omega) (by omega)
        rw [hz] at this; omega
theorem befN_zero : befN p A 0 = 0 := rfl
theorem befN_end (hA : ArrW p A) (hw : ∀ w, w ∈ p.W → 1 ≤ w.s ∧ w.s ≤ 99) : befN p A A.length = leastP p := by
  unfold befN leastP
  have hs : ∀ j, j < A.length → 1 ≤ (A.getD j default).s ∧ (A.getD j default).s ≤ 99 := fun j hj => by
    obtain ⟨i, hi, e⟩ := hA.at hj
    rw [e]
    have := hw (p.W.getD i default) (by rw [getD_of hi]; exact List.getElem_mem hi)
    exact this
  refine (leN_gap ?_ fun w hw2 => ?_).symm
  · split
    · omega
    · have := hs (A.length - 1) (by omega); omega
  · obtain ⟨j, hj, e⟩ := hA.mem hw2
    have es : (A.getD j default).s = w.s := by rw [← e]; rfl
    rw [if_neg (by omega)]
    by_cases ej : j = A.length - 1
    · subst ej; omega
    · have := hA.le (j := j) (k := A.length - 1) (by omega) (by omega)
      have := hs (A.length - 1) (by omega); omega
/-- how many of the first k numbers stand for the first time -/
def fstB (w : List Int) (i : Nat) : Bool := !((List.range i).any fun k => decide (w.getD k 0 = w.getD i 0))
def hasV (w : List Int) (k : Nat) (v : Nat) : Bool := (List.range k).any fun i => decide (w.getD i 0 = (v : Int))
theorem hasV_iff {w : List Int} {k v : Nat} : hasV w k v = true ↔ ∃ i, i < k ∧ w.getD i 0 = v := by simp [hasV]
theorem fst_cnt {w : List Int} {T : Nat} : ∀ {k : Nat}, (∀ i, i < k → 0 ≤ w.getD i 0 ∧ w.getD i 0 < T) → cnI (fstB w) 0 k = cnI (hasV w k) 0 T
  | 0, _ => (cnI_none fun j _ _ => by simp [hasV]).symm
  | k + 1, h => by
    have ih := fst_cnt (w := w) (T := T) (k := k) fun i hi => h i (by omega)
    obtain ⟨h1, h2⟩ := h k (by omega)
    simp only [cnI, Nat.zero_add, ih]
    by_cases e : hasV w k (w.getD k 0).toNat = true
    · obtain ⟨i, hi, ei⟩ := hasV_iff.1 e
      have ef : fstB w k = false := by
        simp only [fstB, Bool.not_eq_false', List.any_eq_true, List.mem_range, decide_eq_true_eq]
        exact ⟨i, hi, by rw [ei]; omega⟩
      rw [ef]
      simp only [Bool.false_eq_true, if_false, Nat.add_zero]
      refine cnI_congr fun v _ _ => ?_
      rw [Bool.eq_iff_iff, hasV_iff, hasV_iff]
      constructor
      · rintro ⟨a, b, c⟩; exact ⟨a, by omega, c⟩
      · rintro ⟨a, b, c⟩
        by_cases ea : a = k
        · subst ea; exact ⟨i, hi, by rw [ei]; omega⟩
        · exact ⟨a, by omega, c⟩
    · have ef : fstB w k = true := by
        simp only [fstB, Bool.not_eq_true', List.any_eq_false, List.mem_range, decide_eq_true_eq]
        intro i hi ei
        exact e (hasV_iff.2 ⟨i, hi, by rw [ei]; omega⟩)
      rw [ef]
      simp only [if_true]
      refine ((cnI_one (x := (w.getD k 0).toNat) (by simpa using e) (hasV_iff.2 ⟨k, by omega, by omega⟩) (fun v hv => ?_)).trans ?_).symm
      · rw [Bool.eq_iff_iff, hasV_iff, hasV_iff]
        constructor
        · rintro ⟨a, b, c⟩; exact ⟨a, by omega, c⟩
        · rintro ⟨a, b, c⟩
          by_cases ea : a = k
          · subst ea; omega
          · exact ⟨a, by omega, c⟩
      · rw [if_pos (by omega)]
/-- what the wigs of all wearings are, at the end -/
structure UsedW (p : Ply) (w : List Int) (T : Nat) : Prop where
  len : w.length = p.W.length
  rng : ∀ i, i < p.W.length → 0 ≤ w.getD i 0 ∧ w.getD i 0 < T
  ok : ∀ i k, i < p.W.length → k < p.W.length → i ≠ k → w.getD i 0 = w.getD k 0 → clashB p (p.W.getD i default) (p.W.getD k default) = false
  cnt : cnI (fstB w) 0 p.W.length = T
theorem GrS.used (hA : ArrW p A) {u : Nat} {g : Nat → Int} {w : List Int} (h : GrS A p.rd A.length 0 u [] g) (hl : w.length = p.W.length) (hr : 0 ≤ p.rd) (hft : ∀ x, x ∈ p.W → x.f < x.t) (hg : ∀ j, j < A.length → w.getD (A.getD j default).n.toNat 0 = g j) : UsedW p w u := by
  have hlen := hA.len
  have rng : ∀ i, i < p.W.length → 0 ≤ w.getD i 0 ∧ w.getD i 0 < u := fun i hi => by
    obtain ⟨j, hj, e⟩ := hA.of hi
    have := hg j hj
    rw [e] at this
    simp only [mkWg, Int.toNat_natCast] at this
    rw [this]; exact h.lo j hj
  refine ⟨hl, rng, fun i k hi hk hne he => ?_, ?_⟩
  · obtain ⟨j, hj, e⟩ := hA.of hi
    obtain ⟨j', hj', e'⟩ := hA.of hk
    have g1 := hg j hj
    have g2 := hg j' hj'
    rw [e] at g1
    rw [e'] at g2
    simp only [mkWg, Int.toNat_natCast] at g1 g2
    have key : ∀ x y, x < A.length → y < A.length → x < y → g x = g y → clashB p (A.getD x default).wr (A.getD y default).wr = false ∧ clashB p (A.getD y default).wr (A.getD x default).wr = false := fun x y hx hy hxy hgg => by
      obtain ⟨n1, n2⟩ := h.nc x y hxy (by omega) hgg
      have hmem : (A.getD x default).wr ∈ p.W := by
        rw [← hA.wr.mem_iff]; exact List.mem_map.2 ⟨_, by rw [getD_of hx]; exact List.getElem_mem hx, rfl⟩
      have h3 := hft _ hmem
      simp only [Wg.wr] at h3
      have e1 : (A.getD x default).f < (A.getD y default).f := by omega
      have e2 : ¬ (A.getD y default).f < (A.getD x default).f := by omega
      have e3 : ¬ (A.getD y default).f < (A.getD x default).t + p.rd := by omega
      simp [clashB, tightB, Wg.wr, n1, e1, e2, e3]
    have ew : (A.getD j default).wr = p.W.getD i default := by rw [e]; rfl
    have ew' : (A.getD j' default).wr = p.W.getD k default := by rw [e']; rfl
    rw [← ew, ← ew']
    by_cases hjj : j = j'
    · subst hjj
      rw [e] at e'
      have : (i : Int) = (k : Int) := congrArg Wg.n e'
      omega
    · by_cases hlt : j < j'
      · exact (key j j' hj hj' hlt (by rw [← g1, ← g2, he])).1
      · exact (key j' j hj' hj (by omega) (by rw [← g1, ← g2, he])).2
  · rw [fst_cnt rng]
    refine cnI_all fun v hv => ?_
    obtain ⟨j, hj, ej⟩ := h.su v (by simpa using hv)
    obtain ⟨i, hi, e⟩ := hA.at (j := j) (by omega)
    refine hasV_iff.2 ⟨i, hi, ?_⟩
    have := hg j (by omega)
    rw [e] at this
    simp only [mkWg, Int.toNat_natCast] at this
    rw [this, ej]
end
end Go.Proofs.Ytkmcdiajcnejiaa.Vm
