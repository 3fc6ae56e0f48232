/- Package plot over the machine: the wearings in order, and those of each size. -/
import Derived.Test.YtkmcdiajcnejiaaSwE
namespace Go.Proofs.Ytkmcdiajcnejiaa.Vm
open Go
set_option maxRecDepth 100000
set_option maxHeartbeats 1000000
set_option linter.unusedSimpArgs false
set_option linter.unusedVariables false
attribute [-simp] List.getD_eq_getElem?_getD
section
theorem LstV.keepB {α : Type} {k : Nat} {c : Cod α k} {H H' : Hp} {v : V} {l : List α} (h : LstV c H v l) (hk : ∀ b o n z, v = .sl b o n z → H'[b]? = H[b]?) : LstV c H' v l := by
  cases h with
  | nil => exact .nil
  | empty => exact .empty
  | sl h1 h2 h3 => exact .sl (by rw [hk _ _ _ _ rfl]; exact h1) h2 h3
theorem OwnV.keepB {n : Nat} {H H' : Hp} {v : V} {l : List Int} (h : OwnV n H v l) (hk : ∀ b o m z, v = .sl b o m z → H'[b]? = H[b]?) : OwnV n H' v l := by
  cases h with
  | nil => exact .nil
  | row h1 h3 => exact .row h1 (by rw [hk _ _ _ _ rfl]; exact h3)
theorem OwnT.keepB {α : Type} {k : Nat} {c : Cod α k} {n : Nat} {H H' : Hp} {v : V} {l : List α} (h : OwnT n c H v l) (hk : ∀ b o m z, v = .sl b o m z → H'[b]? = H[b]?) : OwnT n c H' v l := by
  cases h with
  | nil => exact .nil
  | row h1 h3 => exact .row h1 (by rw [hk _ _ _ _ rfl]; exact h3)
theorem OwnV.ge {n : Nat} {H : Hp} {v : V} {l : List Int} (h : OwnV n H v l) : ∀ b o k z, v = .sl b o k z → n ≤ b := by
  cases h with
  | nil => intro b o k z e; cases e
  | row h1 h2 => intro b o k z e; cases e; exact h1
theorem OwnT.ge {α : Type} {k : Nat} {c : Cod α k} {n : Nat} {H : Hp} {v : V} {l : List α} (h : OwnT n c H v l) : ∀ b o m z, v = .sl b o m z → n ≤ b := by
  cases h with
  | nil => intro b o m z e; cases e
  | row h1 h2 => intro b o m z e; cases e; exact h1
theorem OwnT.below {α : Type} {k : Nat} {c : Cod α k} {n : Nat} {H : Hp} {v : V} {l : List α} (h : OwnT n c H v l) : ∀ b o m z, v = .sl b o m z → b < H.length := by
  cases h with
  | nil => intro b o m z e; cases e
  | row h1 h2 => intro b o m z e; cases e; exact (List.getElem?_eq_some_iff.1 h2).1
/-- the runs of one size, one behind the other -/
inductive RnsW (A : List Wg) : Nat → List (Nat × Nat) → Prop
  | nil : RnsW A 0 []
  | snoc {m d : Nat} {rs : List (Nat × Nat)} : RnsW A m rs → RunW A m d → RnsW A (m + d) (rs ++ [(m, m + d)])
def posW (rs : List (Nat × Nat)) (i : Nat) : Nat := if i = 0 then 0 else (rs.getD (i - 1) default).2
theorem RnsW.end {A : List Wg} {n : Nat} {rs : List (Nat × Nat)} (h : RnsW A n rs) : posW rs rs.length = n := by
  cases h with
  | nil => rfl
  | snoc h1 h2 => simp [posW, List.getD_eq_getElem?_getD]
theorem RnsW.at {A : List Wg} {n : Nat} {rs : List (Nat × Nat)} (h : RnsW A n rs) : ∀ {i : Nat}, i < rs.length → ∃ d, rs.getD i default = (posW rs i, posW rs i + d) ∧ posW rs (i + 1) = posW rs i + d ∧ RunW A (posW rs i) d := by
  induction h with
  | nil => intro i hi; simp at hi
  | snoc h1 h2 ih =>
    rename_i m d rs
    intro i hi
    have hp : ∀ j, j ≤ rs.length → posW (rs ++ [(m, m + d)]) j = posW rs j := fun j hj => by
      unfold posW
      split
      · rfl
      · rw [List.getD_eq_getElem?_getD, List.getElem?_append_left (by omega), ← List.getD_eq_getElem?_getD]
    by_cases e : i < rs.length
    · obtain ⟨d', a1, a2, a3⟩ := ih e
      refine ⟨d', ?_, ?_, ?_⟩
      · rw [hp i (by omega), List.getD_eq_getElem?_getD, List.getElem?_append_left e, ← List.getD_eq_getElem?_getD]; exact a1
      · rw [hp i (by omega), hp (i + 1) (by omega)]; exact a2
      · rw [hp i (by omega)]; exact a3
    · have : i = rs.length := by simp at hi; omega
      subst this
      have e2 := h1.end
      refine ⟨d, ?_, ?_, ?_⟩
      · rw [hp _ (Nat.le_refl _), e2]; simp [List.getD_eq_getElem?_getD]
      · rw [hp _ (Nat.le_refl _), e2]; simp [posW, List.getD_eq_getElem?_getD]
      · rw [hp _ (Nat.le_refl _), e2]; exact h2
theorem RnsW.len {A : List Wg} {n : Nat} {rs : List (Nat × Nat)} (h : RnsW A n rs) : rs.length ≤ n := by
  induction h with
  | nil => simp
  | snoc h1 h2 ih => have := h2.pos; simp; omega
theorem RnsW.le {A : List Wg} {n : Nat} {rs : List (Nat × Nat)} (h : RnsW A n rs) : n ≤ A.length := by
  cases h with
  | nil => omega
  | snoc h1 h2 => exact h2.le
theorem instPair : (default : Nat × Nat) = (0, 0) := rfl
def rnC (u : V) : Cod (Nat × Nat) 1 := ⟨fun p => [subV u p.1 p.2], fun _ => rfl⟩
theorem LstV.sub3 {α : Type} {k : Nat} {c : Cod α k} {H : Hp} {v : V} {l : List α} (h : LstV c H v l) {a b : Nat} (hab : a ≤ b ∧ b ≤ l.length) (hpos : 0 < l.length) : vslS3 k v (some (.int .i64 a)) (some (.int .i64 b)) (.int .i64 b) = some (subV v a b) := by
  cases h with
  | nil => simp at hpos
  | empty => simp at hpos
  | sl h1 h2 h3 =>
    have hb : vbounds b (some (.int .i64 a)) (some (.int .i64 b)) = some (a, b) := by
      have h1 : (a : Int) ≤ (b : Int) := by omega
      simp [vbounds, vint, hab.1]
    simp only [vslS3, vint, Int.toNat_natCast, hb, subV]
    rw [if_pos ⟨trivial, by omega, by omega⟩]
    split
    · rfl
    · split <;> rfl
theorem filled_sub {α : Type} [Inhabited α] {l : List α} {a d j : Nat} (hd : j < d) (hl : a + d ≤ l.length) : ((l.drop a).take (a + d - a)).getD j default = l.getD (a + j) default := by
  rw [List.getD_eq_getElem?_getD, List.getElem?_take_of_lt (by omega), List.getElem?_drop, ← List.getD_eq_getElem?_getD]
end
section
variable {lim : Nat} {H : Hp} {K : V → Hp → Prop} {wv : V} {W : List Wr} {r c x y q u1 u2 u3 : Int} {v w : V}
theorem cmp_isNaN (hK : K (.bool false) H) : VCall tbl lim 110 [.int .i64 x] H K := by
  refine VCall_fn tbl_at110 rfl ?_
  simp [vf110]
  exact hK
theorem cmp_CompareZ (hK : K (.int .i64 (cmpZ x y)) H) : VCall tbl lim 95 [.int .i64 x, .int .i64 y] H K := by
  refine VCall_fn tbl_at95 rfl ?_
  simp [vf95]
  refine cmp_isNaN ?_
  simp
  refine cmp_isNaN ?_
  simp
  refine cond_dec (fun h => ?_) fun h => ?_
  · simp; simpa [cmpZ, h] using hK
  · simp
    refine cond_dec (fun h2 => ?_) fun h2 => ?_
    · simp; simpa [cmpZ, h, h2] using hK
    · simp; simpa [cmpZ, h, h2] using hK
theorem cmp_Or3 (hs : SlV H v [u1, u2, u3]) (hK : K (.int .i64 (if u1 ≠ 0 then u1 else if u2 ≠ 0 then u2 else u3)) H) : VCall tbl lim 94 [v] H K := by
  refine VCall_fn tbl_at94 rfl ?_
  have a0 := hs.addr (i := 0) (by simp)
  have a1 := hs.addr (i := 1) (by simp)
  have a2 := hs.addr (i := 2) (by simp)
  have g0 := hs.load (L := []) (i := 0) (by simp)
  have g1 := hs.load (L := []) (i := 1) (by simp)
  have g2 := hs.load (L := []) (i := 2) (by simp)
  simp [List.getD_eq_getElem?_getD] at a0 a1 a2 g0 g1 g2
  by_cases h : u1 = 0
  · subst h
    simp only [ne_eq, not_true_eq_false, if_false] at hK
    by_cases h2 : u2 = 0
    · subst h2
      simp only [ne_eq, not_true_eq_false, if_false] at hK
      by_cases h3 : u3 = 0
      · subst h3
        simp [vf94, hs.len]
        refine wLoop_round ?_
        simp [a0, g0, wrap_i64]
        refine wLoop_round ?_
        simp [a1, g1, wrap_i64]
        refine wLoop_round ?_
        simp [a2, g2, wrap_i64]
        refine wLoop_round ?_
        simp
        exact hK
      · simp [vf94, hs.len]
        refine wLoop_round ?_
        simp [a0, g0, wrap_i64]
        refine wLoop_round ?_
        simp [a1, g1, wrap_i64]
        refine wLoop_round ?_
        simp [a2, g2, wrap_i64, h3]
        exact hK
    · simp only [if_pos h2] at hK
      simp [vf94, hs.len]
      refine wLoop_round ?_
      simp [a0, g0, wrap_i64]
      refine wLoop_round ?_
      simp [a1, g1, wrap_i64, h2]
      exact hK
  · rw [if_pos h] at hK
    simp [vf94, hs.len]
    refine wLoop_round ?_
    simp [a0, g0, wrap_i64, h]
    exact hK
theorem rd5_0 {a b c d e : V} : rd none [a, b, c, d, e] 0 = some a := Eq.trans rfl rfl
theorem rd5_1 {a b c d e : V} : rd none [a, b, c, d, e] 1 = some b := Eq.trans rfl rfl
theorem rd5_2 {a b c d e : V} : rd none [a, b, c, d, e] 2 = some c := Eq.trans rfl rfl
theorem rd5_3 {a b c d e : V} : rd none [a, b, c, d, e] 3 = some d := Eq.trans rfl rfl
theorem rd5_4 {a b c d e : V} : rd none [a, b, c, d, e] 4 = some e := Eq.trans rfl rfl
theorem splice55 {a b c d e x y z w u : V} : splice [a, b, c, d, e] 0 [x, y, z, w, u] = [x, y, z, w, u] := by simp [splice]
theorem iz5 : ints (zs 5) = [.int .i64 0, .int .i64 0, .int .i64 0, .int .i64 0, .int .i64 0] := Eq.trans rfl rfl
attribute [simp] rd5_0 rd5_1 rd5_2 rd5_3 rd5_4 splice55
theorem wear_cmp {b : Nat} {l : List Wg} : CmpQ b 88 [] [] H l wgCf := by
  intro H' lim x y K hx hy hlen hsame hK
  show VCall tbl lim 88 [eV x, eV y] H' K
  refine VCall_fn tbl_at88 rfl ?_
  simp [vf88, eV, Wg.cells]
  refine cmp_CompareZ ?_
  simp
  refine cmp_CompareZ ?_
  simp
  refine cmp_CompareZ ?_
  simp [vbslice_some]
  have hs : SlV (H' ++ [.row [.int .i64 (cmpZ x.s y.s), .int .i64 (cmpZ x.f y.f), .int .i64 (cmpZ x.n y.n)] true]) (.sl H'.length 0 3 1) [cmpZ x.s y.s, cmpZ x.f y.f, cmpZ x.n y.n] := SlV.lit (l := [_, _, _]) (by rw [List.getElem?_concat_length]; rfl) rfl
  refine cmp_Or3 hs ?_
  have hK := hK _ (HX.push (x := .row [.int .i64 (cmpZ x.s y.s), .int .i64 (cmpZ x.f y.f), .int .i64 (cmpZ x.n y.n)] true))
  unfold wgCf at hK
  simp [splice]
  simpa using hK
theorem sort_wg {n g : Nat} {u : V} {l : List Wg} {cf : Wg → Wg → Int} {fs cs : List V} (hu : OwnT n wgC H u l) (hlim : lim ≤ n) (hn : n ≤ H.length) (hst : allStor fs = true ∧ allStor cs = true) (hc : ∀ b, CmpQ b g fs cs H l cf) (ho : Ordr cf) (hl : l.length < 256)
    (hK : ∀ l' H', l'.Perm l → SortR cf 0 l'.length l' → OwnT n wgC H' u l' → H.length ≤ H'.length → (∀ b', b' < n → H'[b']? = H[b']?) → K (.tup []) H') : VCall tbl lim 87 [u, .func (.func g) fs cs] H K := by
  cases hu with
  | nil => exact sq_sort0 (by omega) hst (hK [] H (.refl _) (fun p q _ _ h => absurd h (by simp)) .nil (Nat.le_refl _) (fun _ _ => rfl))
  | row h1 h3 =>
    rename_i b
    refine sq_sort h3 (by omega) hst (hc b) ho hl fun H' l' hs hso => ?_
    have hn2 := hs.n
    refine hK l' H' hs.perm (by rw [hn2]; exact hso) ?_ hs.len fun b' hb' => hs.oth b' (by omega) (by omega)
    rw [← hn2]
    exact .row h1 hs.row
end
end Go.Proofs.Ytkmcdiajcnejiaa.Vm
