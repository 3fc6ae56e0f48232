/- Blends, pure: normal blends stay as they are. -/
import Derived.Test.YtkmcdiajcnejiaaBlF
namespace Go.Proofs.Ytkmcdiajcnejiaa.Vm
open Go
set_option maxRecDepth 100000
set_option maxHeartbeats 1000000
set_option linter.unusedSimpArgs false
set_option linter.unusedVariables false
attribute [-simp] List.getD_eq_getElem?_getD
def normP (l : List Prt) : List Prt × Int := if blP l = 0 then nrmP (colP l) else ([], blP l)
theorem mem_getD {l : List Prt} {p : Prt} (h : p ∈ l) : ∃ i, i < l.length ∧ l.getD i default = p := by
  obtain ⟨i, hi, e⟩ := List.mem_iff_getElem.1 h
  exact ⟨i, hi, by rw [List.getD_eq_getElem?_getD, List.getElem?_eq_getElem hi]; exact e⟩
theorem getD_mem {l : List Prt} {i : Nat} (hi : i < l.length) : l.getD i default ∈ l := by
  rw [List.getD_eq_getElem?_getD, List.getElem?_eq_getElem hi]; exact List.getElem_mem hi
theorem canN_mem {W : Int → Int} {p : Prt} : ∀ {n : Nat}, p ∈ canN W n → ∃ i, i < n ∧ p = mkP i (W i) ∧ W (i : Int) ≠ 0
  | 0, h => by simp [canN] at h
  | n + 1, h => by
    unfold canN at h
    rcases List.mem_append.1 h with h | h
    · obtain ⟨i, a, b, c⟩ := canN_mem h
      exact ⟨i, by omega, b, c⟩
    · by_cases hw : W (n : Int) ≠ 0
      · rw [if_pos hw] at h
        exact ⟨n, by omega, List.mem_singleton.1 h, hw⟩
      · rw [if_neg hw] at h; simp at h
theorem canN_len {W : Int → Int} : ∀ {n : Nat}, (canN W n).length ≤ n
  | 0 => Nat.le_refl _
  | n + 1 => by
    have := canN_len (W := W) (n := n)
    unfold canN
    rw [List.length_append]
    split <;> simp <;> omega
theorem wtN_bd {i : Int} {B : Int} (hB : 0 ≤ B) : ∀ {A : List Prt}, (∀ p, p ∈ A → 0 ≤ p.w ∧ p.w ≤ B) → 0 ≤ wtN A i ∧ wtN A i ≤ B * A.length
  | [], _ => by simp [wtN]
  | p :: A, h => by
    have ih := wtN_bd (i := i) hB (A := A) fun q hq => h q (List.mem_cons_of_mem _ hq)
    have := h p (List.mem_cons_self ..)
    simp only [wtN, List.length_cons]
    rw [show ((A.length + 1 : Nat) : Int) = (A.length : Int) + 1 from rfl, Int.mul_add, Int.mul_one]
    split <;> omega
theorem gN_congr {A B : List Prt} : ∀ {n : Nat}, (∀ i, i < n → A.getD i default = B.getD i default) → gN A n = gN B n
  | 0, _ => rfl
  | n + 1, h => by
    have ih := gN_congr (A := A) (B := B) (n := n) fun i hi => h i (by omega)
    simp only [gN, ih, h n (by omega)]
theorem gN_snoc {A : List Prt} {p : Prt} : gN (A ++ [p]) (A.length + 1) = Nat.gcd (gN A A.length) p.w.toNat := by
  have e : gN (A ++ [p]) A.length = gN A A.length := gN_congr fun i hi => by
    simp only [List.getD_eq_getElem?_getD, List.getElem?_append_left hi]
  have e2 : (A ++ [p]).getD A.length default = p := by simp [List.getD_eq_getElem?_getD]
  simp only [gN, e, e2]
theorem gN_dvd {L : List Prt} : ∀ {n i : Nat}, i < n → gN L n ∣ (L.getD i default).w.toNat
  | n + 1, i, h => by
    by_cases e : i = n
    · subst e; exact Nat.gcd_dvd_right _ _
    · exact Nat.dvd_trans (Nat.gcd_dvd_left _ _) (gN_dvd (n := n) (i := i) (by omega))
theorem gN_scale {L M : List Prt} {g : Nat} : ∀ {n : Nat}, (∀ i, i < n → (L.getD i default).w.toNat = g * (M.getD i default).w.toNat) → gN L n = g * gN M n
  | 0, _ => by simp [gN]
  | n + 1, h => by
    have ih := gN_scale (L := L) (M := M) (g := g) (n := n) fun i hi => h i (by omega)
    simp only [gN, ih, h n (by omega)]
    exact Nat.gcd_mul_left _ _ _
theorem colP_spec {l : List Prt} (h : blP l = 0) : CanL (colP l) ∧ 0 < (colP l).length ∧ (colP l).length ≤ 240 ∧ ∀ i, i < (colP l).length → 1 ≤ ((colP l).getD i default).w ∧ ((colP l).getD i default).w ≤ 6000 := by
  obtain ⟨h1, h2, h3⟩ := blP_ok h
  have hA : ∀ p, p ∈ l → okS p := fun p hp => by obtain ⟨i, hi, e⟩ := mem_getD hp; rw [← e]; exact (h3 i hi).1
  have hW : ∀ p, p ∈ l → 0 ≤ p.w ∧ p.w ≤ 1000 := fun p hp => by obtain ⟨i, hi, e⟩ := mem_getD hp; rw [← e]; have := h3 i hi; omega
  obtain ⟨c1, c2, c3⟩ := canN_spec (W := wtN l) (n := 240) (Nat.le_refl _)
  refine ⟨c1, ?_, canN_len, fun i hi => ?_⟩
  · apply Classical.byContradiction
    intro hn
    have hc : canN (wtN l) 240 = [] := List.length_eq_zero_iff.1 (by unfold colP at hn; omega)
    have h0 := h3 0 h2
    have hr := numS_rng h0.1
    have := c3 (numS (l.getD 0 default))
    rw [hc, if_pos (by omega)] at this
    have hl : l = l.getD 0 default :: l.drop 1 := by
      rw [List.getD_eq_getElem?_getD, List.getElem?_eq_getElem h2]
      exact (List.drop_eq_getElem_cons (i := 0) h2)
    have hrest := wtN_bd (i := numS (l.getD 0 default)) (B := 1000) (by omega) (A := l.drop 1) fun p hp => hW p (List.mem_of_mem_drop hp)
    rw [hl] at this
    generalize l.drop 1 = t at *
    generalize l.getD 0 default = p at *
    simp only [List.getD_eq_getElem?_getD, List.getElem?_cons_zero, Option.getD_some, wtN, if_true] at this
    omega
  · obtain ⟨j, _, e, hw⟩ := canN_mem (getD_mem hi)
    have e : (colP l).getD i default = mkP j (wtN l j) := e
    have e2 : ((colP l).getD i default).w = wtN l j := by rw [e]; rfl
    rw [e2]
    have := wtN_bd (i := (j : Int)) (B := 1000) (by omega) hW
    omega
theorem dv_mul {g : Nat} {w : Int} (hg : 0 < g) (hw : 1 ≤ w) (hd : g ∣ w.toNat) : w.toNat = g * (w.tdiv g).toNat ∧ 1 ≤ w.tdiv g := by
  obtain ⟨k, hk⟩ := hd
  have e : w = ((g * k : Nat) : Int) := by omega
  have hk0 : 0 < k := by
    apply Nat.pos_of_ne_zero
    intro h; rw [h, Nat.mul_zero] at hk; omega
  have e2 : w.tdiv g = k := by
    rw [e, Int.tdiv_eq_ediv_of_nonneg (by omega), Int.natCast_mul, Int.mul_ediv_cancel_left _ (by omega)]
  rw [e2]
  exact ⟨by simpa using hk, by omega⟩
theorem dvW_one {p : Prt} : dvW 1 p = p := by
  cases p
  simp [dvW]
/-- a normal blend is its own normal form -/
theorem norm_norm {l : List Prt} (h : (normP l).2 = 0) : normP (normP l).1 = ((normP l).1, 0) ∧ (normP l).1.length ≤ 6 := by
  have hb : blP l = 0 := by
    apply Classical.byContradiction
    intro hn
    unfold normP at h
    rw [if_neg hn] at h
    exact hn h
  obtain ⟨c1, c2, c3, c4⟩ := colP_spec hb
  have e1 : normP l = nrmP (colP l) := by unfold normP; rw [if_pos hb]
  rw [e1] at h ⊢
  generalize colP l = L at *
  unfold nrmP at h ⊢
  split at h
  · simp at h
  rename_i h6
  split at h
  case isFalse => simp at h
  rename_i hall
  rw [if_neg h6, if_pos hall]
  have hgp := gN_pos (L := L) (n := L.length) c2 (Nat.le_refl _) fun i hi => (c4 i hi).1
  have hdv := fun i (hi : i < L.length) => gN_dvd (L := L) (n := L.length) (i := i) hi
  generalize hg : gN L L.length = g at *
  have hMl : (L.map (dvW g)).length = L.length := List.length_map _
  have hMi : ∀ i, i < L.length → (L.map (dvW g)).getD i default = dvW g (L.getD i default) := fun i hi => by
    rw [List.getD_eq_getElem?_getD, List.getElem?_map, List.getD_eq_getElem?_getD, List.getElem?_eq_getElem hi]; rfl
  have hMw : ∀ i, i < L.length → (L.getD i default).w.toNat = g * ((L.map (dvW g)).getD i default).w.toNat ∧ 1 ≤ ((L.map (dvW g)).getD i default).w ∧ ((L.map (dvW g)).getD i default).w ≤ 1000 := fun i hi => by
    rw [hMi i hi]
    have := dv_mul hgp (c4 i hi).1 (hdv i hi)
    have h2 := allN_at hall hi
    simp only [ltB, decide_eq_true_eq] at h2
    exact ⟨this.1, this.2, h2⟩
  have hok : ∀ p, p ∈ L.map (dvW g) → okS p := fun p hp => by
    obtain ⟨q, hq, e⟩ := List.mem_map.1 hp
    rw [← e]; exact c1.ok q hq
  have hcan : CanL (L.map (dvW g)) := by
    refine ⟨?_, hok, fun p hp => ?_⟩
    · rw [List.pairwise_map]; exact c1.asc
    · obtain ⟨i, hi, e⟩ := mem_getD hp
      have := (hMw i (by omega)).2.1
      rw [← e]; omega
  have hgs := gN_scale (L := L) (M := L.map (dvW g)) (g := g) (n := L.length) fun i hi => (hMw i hi).1
  rw [hg] at hgs
  have hg1 : gN (L.map (dvW g)) L.length = 1 := by
    have : g * gN (L.map (dvW g)) L.length = g * 1 := by omega
    exact Nat.eq_of_mul_eq_mul_left hgp this
  have hcol : colP (L.map (dvW g)) = L.map (dvW g) := (col_uniq hok hcan fun i => rfl).symm
  generalize L.map (dvW g) = M at *
  refine ⟨?_, by simp only; omega⟩
  have hbl : blP M = 0 := by
    have hal : allN (fun i => prB (M.getD i default)) M.length = true := by
      have key : ∀ k, k ≤ M.length → allN (fun i => prB (M.getD i default)) k = true := fun k => by
        induction k with
        | zero => intro _; rfl
        | succ k ih =>
          intro hk
          have a := hok _ (getD_mem (l := M) (i := k) (by omega))
          have b := (hMw k (by omega)).2
          have : prB (M.getD k default) = true := by
            simp only [prB, Bool.and_eq_true, decide_eq_true_eq]
            exact ⟨okS_iff.2 a, b⟩
          simp only [allN, ih (by omega), this, Bool.and_self]
      exact key _ (Nat.le_refl _)
    unfold blP
    rw [if_neg (by omega), if_neg (by omega), hal, if_neg (by simp)]
  simp only
  unfold normP
  rw [if_pos hbl, hcol]
  unfold nrmP
  have hall2 : allN (ltB 1 M) M.length = true := by
    have key : ∀ k, k ≤ M.length → allN (ltB 1 M) k = true := fun k => by
      induction k with
      | zero => intro _; rfl
      | succ k ih =>
        intro hk
        have b := (hMw k (by omega)).2.2
        have : ltB 1 M k = true := by simp only [ltB, dvW_one]; exact decide_eq_true b
        simp only [allN, ih (by omega), this, Bool.and_self]
    exact key _ (Nat.le_refl _)
  have hmap : M.map (dvW 1) = M := by
    have : dvW 1 = id := funext fun p => dvW_one
    rw [this, List.map_id]
  rw [if_neg (by omega), hMl, hg1, ← hMl, if_pos hall2, hmap]
end Go.Proofs.Ytkmcdiajcnejiaa.Vm
