/- Package plot over the machine, in one text (a claim has at most 60 files): PcA, PcB, PcC and TwA together; TopWigs. -/
import Derived.Test.YtkmcdiajcnejiaaNeB
namespace Go.Proofs.Ytkmcdiajcnejiaa.Vm
open Go
set_option maxRecDepth 100000
set_option maxHeartbeats 1000000
set_option linter.unusedSimpArgs false
set_option linter.unusedVariables false
attribute [-simp] List.getD_eq_getElem?_getD
def sameB (wl : List Int) (i k : Nat) : Bool := decide (wl.getD i 0 = wl.getD k 0)
def fitB (p : Ply) (wl : List Int) (i k : Nat) : Bool := sameB wl i k && decide ((p.W.getD i default).s ≠ (p.W.getD k default).s)
def ovB (p : Ply) (wl : List Int) (i k : Nat) : Bool := sameB wl i k && clashB p (p.W.getD i default) (p.W.getD k default)
def nnB (wl : List Int) (i : Nat) : Bool := decide (0 ≤ wl.getD i 0)
def fitR (p : Ply) (wl : List Int) (i : Nat) : Bool := allN (fun k => !fitB p wl i k) i
def ovR (p : Ply) (wl : List Int) (i : Nat) : Bool := allN (fun k => !ovB p wl i k) i
def checkP (p : Ply) (wl : List Int) : Int :=
  if valP p ≠ 0 then valP p else if wl.length ≠ p.W.length then 1
  else if allN (nnB wl) wl.length = false then 1
  else if allN (fitR p wl) p.W.length = false then 8
  else if allN (ovR p wl) p.W.length = false then 10 else 0
def usedP (p : Ply) (wl : List Int) : Int := if checkP p wl = 0 then (cnI (fstB wl) 0 p.W.length : Int) else 0
theorem checkP_ok {p : Ply} {wl : List Int} (h : checkP p wl = 0) : valP p = 0 ∧ wl.length = p.W.length ∧ allN (nnB wl) wl.length = true ∧ allN (fitR p wl) p.W.length = true ∧ allN (ovR p wl) p.W.length = true := by
  unfold checkP at h
  split at h
  · rename_i h1; exact absurd h h1
  rename_i h1
  split at h
  · omega
  rename_i h2
  split at h
  · omega
  rename_i h3
  split at h
  · omega
  rename_i h4
  split at h
  · omega
  rename_i h5
  simp only [Bool.not_eq_false, ne_eq, Classical.not_not] at h1 h2 h3 h4 h5
  exact ⟨h1, h2, h3, h4, h5⟩
theorem ok_checkP {p : Ply} {wl : List Int} (h1 : valP p = 0) (h2 : wl.length = p.W.length) (h3 : allN (nnB wl) wl.length = true) (h4 : allN (fitR p wl) p.W.length = true) (h5 : allN (ovR p wl) p.W.length = true) : checkP p wl = 0 := by
  simp [checkP, h1, h2, h2 ▸ h3, h4, h5]
/-- two wearings with the same wig don't clash -/
theorem checkP_apart {p : Ply} {wl : List Int} (h : checkP p wl = 0) {i k : Nat} (hi : i < p.W.length) (hk : k < p.W.length) (hne : i ≠ k) (e : wl.getD i 0 = wl.getD k 0) : clashB p (p.W.getD i default) (p.W.getD k default) = false := by
  obtain ⟨_, _, _, _, h5⟩ := checkP_ok h
  have key : ∀ a b, a < p.W.length → b < a → wl.getD a 0 = wl.getD b 0 → clashB p (p.W.getD a default) (p.W.getD b default) = false := fun a b ha hb he => by
    have := allN_at (f := fun k => !ovB p wl a k) (allN_at h5 ha) hb
    simpa [ovB, sameB, eq_true he] using this
  by_cases hlt : k < i
  · exact key i k hi hlt e
  · rw [clashB_comm]; exact key k i hk (by omega) e.symm
theorem checkP_used {p : Ply} {wl : List Int} {T : Nat} (hv : valP p = 0) (hU : UsedW p wl T) : checkP p wl = 0 ∧ usedP p wl = T := by
  have hlen := hU.len
  have h : checkP p wl = 0 := by
    refine ok_checkP hv hlen (allN_of fun i hi => ?_) (allN_of fun i hi => allN_of fun k hk => ?_) (allN_of fun i hi => allN_of fun k hk => ?_)
    · exact decide_eq_true (hU.rng i (by omega)).1
    · by_cases e : wl.getD i 0 = wl.getD k 0
      · have := hU.ok i k hi (by omega) (by omega) e
        simp only [clashB, Bool.or_eq_false_iff, decide_eq_false_iff_not] at this
        simp [fitB, sameB, Classical.not_not.1 this.1]
      · simp [fitB, sameB, eq_false e]
    · by_cases e : wl.getD i 0 = wl.getD k 0
      · have := hU.ok i k hi (by omega) (by omega) e
        simp [ovB, this]
      · simp [ovB, sameB, eq_false e]
  refine ⟨h, ?_⟩
  simp only [usedP, h, if_true]
  rw [hU.cnt]
/-- how many of the first n keep a predicate: sums and comparisons -/
theorem cnI_mono {P Q : Nat → Bool} {m : Nat} : ∀ {n : Nat}, (∀ j, m ≤ j → j < m + n → P j = true → Q j = true) → cnI P m n ≤ cnI Q m n
  | 0, _ => Nat.le_refl _
  | n + 1, h => by
    have ih := cnI_mono (P := P) (Q := Q) (m := m) (n := n) fun j h1 h2 => h j h1 (by omega)
    have := h (m + n) (by omega) (by omega)
    simp only [cnI]
    cases hp : P (m + n) with
    | true => rw [this hp]; simp; exact ih
    | false => simp; split <;> omega
theorem or_one : ∀ {a b : Bool}, (a = true → b = false) → (if (a || b) = true then 1 else 0 : Nat) = (if a = true then 1 else 0) + (if b = true then 1 else 0)
  | true, true, h => by simp at h
  | true, false, _ => rfl
  | false, true, _ => rfl
  | false, false, _ => rfl
theorem cnI_or {P Q : Nat → Bool} {m : Nat} : ∀ {n : Nat}, (∀ j, m ≤ j → j < m + n → P j = true → Q j = false) → cnI (fun j => P j || Q j) m n = cnI P m n + cnI Q m n
  | 0, _ => rfl
  | n + 1, h => by
    have ih := cnI_or (P := P) (Q := Q) (m := m) (n := n) fun j h1 h2 => h j h1 (by omega)
    have := h (m + n) (by omega) (by omega)
    have e := or_one this
    simp only [cnI, ih, e]
    omega
/-- the values that the members of a set of places have -/
def hasU (U : Nat → Bool) (w : List Int) (k : Nat) (v : Nat) : Bool := (List.range k).any fun i => U i && decide (w.getD i 0 = (v : Int))
theorem hasU_iff {U : Nat → Bool} {w : List Int} {k v : Nat} : hasU U w k v = true ↔ ∃ i, i < k ∧ U i = true ∧ w.getD i 0 = v := by simp [hasU]
theorem set_cnt {U : Nat → Bool} {w : List Int} {T : Nat} : ∀ {k : Nat}, (∀ i, i < k → 0 ≤ w.getD i 0 ∧ w.getD i 0 < T) → (∀ i j, i < k → j < k → i ≠ j → U i = true → U j = true → w.getD i 0 ≠ w.getD j 0) → cnI U 0 k = cnI (hasU U w k) 0 T
  | 0, _, _ => (cnI_none fun j _ _ => by simp [hasU]).symm
  | k + 1, h, hn => by
    have ih := set_cnt (U := U) (w := w) (T := T) (k := k) (fun i hi => h i (by omega)) fun i j hi hj => hn i j (by omega) (by omega)
    obtain ⟨h1, h2⟩ := h k (by omega)
    simp only [cnI, Nat.zero_add, ih]
    by_cases e : U k = true
    · rw [e]
      simp only [if_true]
      have hno : hasU U w k (w.getD k 0).toNat = false := by
        cases hh : hasU U w k (w.getD k 0).toNat with
        | false => rfl
        | true =>
          obtain ⟨i, hi, hu, hw⟩ := hasU_iff.1 hh
          exact absurd (by omega : w.getD i 0 = w.getD k 0) (hn i k (by omega) (by omega) (by omega) hu e)
      refine ((cnI_one (x := (w.getD k 0).toNat) hno (hasU_iff.2 ⟨k, by omega, e, by omega⟩) (fun v hv => ?_)).trans ?_).symm
      · rw [Bool.eq_iff_iff, hasU_iff, hasU_iff]
        constructor
        · rintro ⟨a, b, c, d⟩; exact ⟨a, by omega, c, d⟩
        · rintro ⟨a, b, c, d⟩
          by_cases ea : a = k
          · subst ea; omega
          · exact ⟨a, by omega, c, d⟩
      · rw [if_pos (by omega)]
    · have e : U k = false := by simpa using e
      rw [e]
      simp only [Bool.false_eq_true, if_false, Nat.add_zero]
      refine cnI_congr fun v _ _ => ?_
      rw [Bool.eq_iff_iff, hasU_iff, hasU_iff]
      constructor
      · rintro ⟨a, b, c, d⟩; exact ⟨a, by omega, c, d⟩
      · rintro ⟨a, b, c, d⟩
        by_cases ea : a = k
        · subst ea; rw [e] at c; simp at c
        · exact ⟨a, by omega, c, d⟩
theorem bound_of (w : List Int) : ∀ k : Nat, ∃ T : Nat, ∀ i, i < k → w.getD i 0 < T
  | 0 => ⟨0, fun i hi => by omega⟩
  | k + 1 => by
    obtain ⟨T, h⟩ := bound_of w k
    refine ⟨T + (w.getD k 0).toNat + 1, fun i hi => ?_⟩
    by_cases e : i = k
    · subst e; omega
    · have := h i (by omega); omega
/-- places with different values are no more than the values -/
theorem set_le {U : Nat → Bool} {w : List Int} {k : Nat} (h : ∀ i, i < k → 0 ≤ w.getD i 0) (hn : ∀ i j, i < k → j < k → i ≠ j → U i = true → U j = true → w.getD i 0 ≠ w.getD j 0) : cnI U 0 k ≤ cnI (fstB w) 0 k := by
  obtain ⟨T, hT⟩ := bound_of w k
  have hr : ∀ i, i < k → 0 ≤ w.getD i 0 ∧ w.getD i 0 < T := fun i hi => ⟨h i hi, hT i hi⟩
  rw [set_cnt hr hn, fst_cnt hr]
  refine cnI_mono fun v _ _ hv => ?_
  obtain ⟨i, hi, _, e⟩ := hasU_iff.1 hv
  exact hasV_iff.2 ⟨i, hi, e⟩
theorem countP_cnI {W : List Wr} {f : Wr → Bool} : ∀ {n : Nat}, n ≤ W.length → (W.take n).countP f = cnI (fun i => f (W.getD i default)) 0 n
  | 0, _ => by simp [cnI]
  | n + 1, h => by
    have ih := countP_cnI (W := W) (f := f) (n := n) (by omega)
    have e : W.take (n + 1) = W.take n ++ [W.getD n default] := by
      rw [List.take_add_one, List.getElem?_eq_getElem (by omega), getD_of (by omega)]; rfl
    rw [e, List.countP_append, ih]
    simp only [cnI, Nat.zero_add]
    cases hf : f (W.getD n default) <;> simp [hf]
/-- in one of the crowds of moments -/
def inM (p : Ply) (M : List (Int × Int)) (i : Nat) : Bool := M.any fun m => inB p m.1 m.2 (p.W.getD i default)
theorem inM_cons {p : Ply} {m : Int × Int} {M : List (Int × Int)} {i : Nat} : inM p (m :: M) i = (inB p m.1 m.2 (p.W.getD i default) || inM p M i) := rfl
theorem need_cnt {p : Ply} : ∀ {M : List (Int × Int)}, (∀ i j, i < j → j < M.length → (M.getD i default).1 ≠ (M.getD j default).1) → needN p M = cnI (inM p M) 0 p.W.length
  | [], _ => by
    have : cnI (inM p []) 0 p.W.length = 0 := cnI_none fun j _ _ => by simp [inM]
    rw [this]; rfl
  | m :: M, h => by
    have ih := need_cnt (p := p) (M := M) fun i j hij hj => by
      exact h (i + 1) (j + 1) (by omega) (by simp; omega)
    have e : cnI (inM p (m :: M)) 0 p.W.length = cnI (fun i => inB p m.1 m.2 (p.W.getD i default) || inM p M i) 0 p.W.length := cnI_congr fun j _ _ => inM_cons
    rw [e, cnI_or, ← ih]
    · have h2 := countP_cnI (W := p.W) (f := inB p m.1 m.2) (Nat.le_refl _)
      rw [List.take_length] at h2
      rw [← h2]
      simp [needN, crw]
    · intro j _ _ hj
      cases hh : inM p M j with
      | false => rfl
      | true =>
        simp only [inM, List.any_eq_true] at hh
        obtain ⟨x, hx, hb⟩ := hh
        obtain ⟨q, hq, eq⟩ := List.mem_iff_getElem.1 hx
        have h3 := h 0 (q + 1) (by omega) (by simp; omega)
        have e1 : (m :: M).getD 0 default = m := rfl
        have e2 : (m :: M).getD (q + 1) default = x := by rw [getD_of (by simp; omega)]; simpa using eq
        rw [e1, e2] at h3
        exact absurd ((inB_iff.1 hj).1.symm.trans (inB_iff.1 hb).1) h3
/-- what moments prove, every assignment that is accepted uses -/
theorem need_used {p : Ply} {wl : List Int} {M : List (Int × Int)} (h : checkP p wl = 0) (hM : ∀ i j, i < j → j < M.length → (M.getD i default).1 ≠ (M.getD j default).1) : needN p M ≤ cnI (fstB wl) 0 p.W.length := by
  obtain ⟨h1, h2, h3, h4, h5⟩ := checkP_ok h
  rw [need_cnt hM]
  refine set_le (fun i hi => ?_) fun i j hi hj hne ui uj e => ?_
  · have := allN_at h3 (i := i) (by omega)
    exact of_decide_eq_true this
  · have hc := checkP_apart h hi hj hne e
    have hs : (p.W.getD i default).s = (p.W.getD j default).s := by
      simp only [clashB, Bool.or_eq_false_iff, decide_eq_false_iff_not] at hc
      exact Classical.not_not.1 hc.1
    simp only [inM, List.any_eq_true] at ui uj
    obtain ⟨x, hx, bx⟩ := ui
    obtain ⟨y, hy, b_y⟩ := uj
    obtain ⟨a, ha, ea⟩ := List.mem_iff_getElem.1 hx
    obtain ⟨b, hb, eb⟩ := List.mem_iff_getElem.1 hy
    have hxy : x.1 = y.1 := (inB_iff.1 bx).1.symm.trans (hs.trans (inB_iff.1 b_y).1)
    have hab : a = b := by
      have ga : M.getD a default = x := by rw [getD_of ha]; exact ea
      have gb : M.getD b default = y := by rw [getD_of hb]; exact eb
      by_cases hlt : a < b
      · have := hM a b hlt hb; rw [ga, gb] at this; exact absurd hxy this
      · by_cases hgt : b < a
        · have := hM b a hgt ha; rw [ga, gb] at this; exact absurd hxy.symm this
        · omega
    subst hab
    have : x = y := ea.symm.trans eb
    subst this
    rw [inB_clash bx b_y] at hc
    simp at hc
theorem least_used {p : Ply} {wl : List Int} {M : List (Int × Int)} (h : checkP p wl = 0) (hM : MomR p M) : (leastP p : Int) ≤ usedP p wl := by
  have := need_used h fun i j hij hj => by have := hM.asc i j hij hj; omega
  rw [hM.need] at this
  simp only [usedP, h, if_true]
  omega
def flagB (b b0 x : Bool) : Prop := b = (b0 || !x)
section
variable {p : Ply} {wl : List Int}
theorem cP_bad (h1 : valP p ≠ 0) : checkP p wl = valP p := by simp [checkP, h1]
theorem cP_len (h1 : valP p = 0) (h2 : wl.length ≠ p.W.length) : checkP p wl = 1 := by simp [checkP, h1, h2]
theorem cP_arg (h1 : valP p = 0) (h2 : wl.length = p.W.length) (h3 : allN (nnB wl) p.W.length = false) : checkP p wl = 1 := by simp [checkP, h1, h2, h3]
theorem cP_fit (h1 : valP p = 0) (h2 : wl.length = p.W.length) (h3 : allN (nnB wl) p.W.length = true) (h4 : allN (fitR p wl) p.W.length = false) : checkP p wl = 8 := by simp [checkP, h1, h2, h3, h4]
theorem cP_ov (h1 : valP p = 0) (h2 : wl.length = p.W.length) (h3 : allN (nnB wl) p.W.length = true) (h4 : allN (fitR p wl) p.W.length = true) (h5 : allN (ovR p wl) p.W.length = false) : checkP p wl = 10 := by simp [checkP, h1, h2, h3, h4, h5]
theorem cP_ok (h1 : valP p = 0) (h2 : wl.length = p.W.length) (h3 : allN (nnB wl) p.W.length = true) (h4 : allN (fitR p wl) p.W.length = true) (h5 : allN (ovR p wl) p.W.length = true) : checkP p wl = 0 := by simp [checkP, h1, h2, h3, h4, h5]
theorem allN_step {f : Nat → Bool} {n : Nat} (h : allN f n = true) (h2 : f n = true) : allN f (n + 1) = true := by simp [allN, h, h2]
theorem allN_eq {f : Nat → Bool} {n : Nat} : allN f (n + 1) = (allN f n && f n) := by simp [allN, Bool.and_comm]
end
section
variable {lim : Nat} {H : Hp} {K : V → Hp → Prop} {wv : V} {W : List Wr} {r c x y q u1 u2 u3 : Int} {v w : V} {wl : List Int} {T : Nat}
theorem plot_Check (hw : LstV wrC H wv W) (hv : SlV H v wl) (hK : K (.int .i64 (checkP ⟨W, r, c⟩ wl)) H) : VCall tbl lim 33 [.agg [wv, .int .i64 r, .int .i64 c], v] H K := by
  refine VCall_fn tbl_at33 rfl ?_
  simp [vf33, hw.stor, hw.one, hv.stor]
  refine plot_Validate hw ?_
  by_cases hval : valP ⟨W, r, c⟩ = 0
  case neg =>
    rw [cP_bad hval] at hK
    simp [hval]; exact hK
  obtain ⟨g1, g2, g3, g4, g5⟩ := valP_ok hval
  simp only at g1 g2 g3 g4 g5
  by_cases hlen : wl.length = W.length
  case neg =>
    rw [cP_len hval hlen] at hK
    have d1 : ¬ (wl.length : Int) = (W.length : Int) := by omega
    simp [hval, hw.len, hv.len, hlen, d1]; exact hK
  simp [hval, hw.len, hv.len, hlen]
  refine wLoop_up W.length (fun i fr L H' => (fr 1 = v ∧ fr 2 = .lp 0 0 ∧ fr 24 = v ∧ fr 25 = .int .i64 W.length ∧ fr 26 = .int .i64 i) ∧ L[0]? = some [wv, .int .i64 r, .int .i64 c] ∧ H' = H ∧ allN (nnB wl) i = true) ⟨by simp [hv.len, hlen], rfl, rfl, rfl⟩ ?_
  rintro i hi fr L H' ⟨⟨f1, f2, f24, f25, f26⟩, l0, e0, hn⟩
  have e0 := e0.symm
  subst e0
  simp [f1, f2, f24, f25, f26]
  refine cond_dec (fun ht => ?_) fun hfl => ?_
  · have ht : i < W.length := by omega
    have ai := hv.addr (i := (i : Int)) (by omega)
    simp only [Int.toNat_natCast] at ai
    simp (disch := omega) [f1, f2, f24, f25, f26, ai, hv.load, lpId_ept]
    refine cond_dec (fun hlt => ?_) fun hlt => ?_
    · rw [cP_arg hval hlen (allN_not ht (decide_eq_false (by omega)))] at hK
      simp; exact hK
    · simp (disch := omega) [f1, f2, f24, f25, f26, l0, wrap_i64]
      exact ⟨by omega, allN_step hn (decide_eq_true (by omega))⟩
  have hin : i = W.length := by omega
  rw [hin] at hn
  clear hi hfl f24 f25 f26 hin
  simp [f1, f2, l0, hw.len]
  refine wLoop_up W.length (fun i fr L H' => ∃ b, (fr 1 = v ∧ fr 2 = .lp 0 0 ∧ fr 34 = wv ∧ fr 35 = .int .i64 W.length ∧ fr 36 = .int .i64 i ∧ fr 8 = .bool b) ∧ L[0]? = some [wv, .int .i64 r, .int .i64 c] ∧ H' = H ∧ allN (fitR ⟨W, r, c⟩ wl) i = true ∧ flagB b false (allN (ovR ⟨W, r, c⟩ wl) i)) ⟨false, by simp [f1, f2, hw.len], l0, rfl, rfl, rfl⟩ ?_
  clear f1 f2 l0
  rintro i hi fr L H' ⟨b0, ⟨f1, f2, f34, f35, f36, f8⟩, l0, e0, hf, hb⟩
  have e0 := e0.symm
  subst e0
  simp [f1, f2, f34, f35, f36, f8]
  refine cond_dec (fun ht => ?_) fun hfl => ?_
  · have ht : i < W.length := by omega
    have hs := hw.sub (a := 0) (b := i) ⟨by omega, by omega⟩
    simp only [List.drop_zero, Nat.sub_zero] at hs
    have hsl : (W.take i).length = i := by simp; omega
    have hbd := hw.subW (a := 0) (b := i) ⟨by omega, by omega⟩ (by omega) (vbounds_hi (k := .i64) (by omega))
    simp (disch := omega) [f1, f2, f34, f35, f36, f8, hw.at ht, wr_load hw, lastO, lastS, splice44, iz4, l0, keepL l0, hbd, hs.len, hsl]
    refine wLoop_up i (fun k fr L' H' => ∃ b, (fr 1 = v ∧ fr 2 = .lp 0 0 ∧ fr 34 = wv ∧ fr 35 = .int .i64 W.length ∧ fr 36 = .int .i64 i ∧ fr 8 = .bool b ∧ fr 9 = .int .i64 i ∧ fr 10 = .lp L.length 0 ∧ fr 44 = subV wv 0 i ∧ fr 45 = .int .i64 i ∧ fr 46 = .int .i64 k) ∧ L'[0]? = some [wv, .int .i64 r, .int .i64 c] ∧ L'[L.length]? = some (W.getD i default).cells ∧ H' = H ∧ allN (fun k => !fitB ⟨W, r, c⟩ wl i k) k = true ∧ flagB b b0 (allN (fun k => !ovB ⟨W, r, c⟩ wl i k) k)) ⟨b0, by simp [f1, f2, f34, f35, f36, f8, hsl], keepL l0 _, by simp [Wr.cells], rfl, rfl, by simp [flagB, allN]⟩ ?_
    clear f1 f2 f34 f35 f36 f8
    rintro k hk fr L' H' ⟨b, ⟨f1, f2, f34, f35, f36, f8, f9, f10, f44, f45, f46⟩, l0', lq, e0, hz, hbz⟩
    have e0 := e0.symm
    subst e0
    simp [f1, f2, f34, f35, f36, f8, f9, f10, f44, f45, f46]
    refine cond_dec (fun ht2 => ?_) fun hfl2 => ?_
    · have ht2 : k < i := by omega
      have hk2 : k < (W.take i).length := by omega
      have hwi := g4 i ht
      have hwk := g4 k (by omega)
      have ai := hv.addr (i := (i : Int)) (by omega)
      have ak := hv.addr (i := (k : Int)) (by omega)
      simp only [Int.toNat_natCast] at ai ak
      by_cases he : wl.getD i 0 = wl.getD k 0
      · by_cases hsz : (W.getD i default).s = (W.getD k default).s
        · have hft : fitB ⟨W, r, c⟩ wl i k = false := by simp [fitB, eq_true hsz]
          have ho : ovB ⟨W, r, c⟩ wl i k = clashB ⟨W, r, c⟩ (W.getD i default) (W.getD k default) := by simp [ovB, sameB, eq_true he]
          have hz' : allN (fun k => !fitB ⟨W, r, c⟩ wl i k) (k + 1) = true := allN_step hz (by rw [hft]; rfl)
          cases b with
          | true =>
            have hb' : flagB true b0 (allN (fun k => !ovB ⟨W, r, c⟩ wl i k) (k + 1)) := by
              unfold flagB at hbz ⊢
              rw [allN_eq]
              cases b0 with
              | true => rfl
              | false =>
                simp only [Bool.false_or] at hbz ⊢
                cases ha : allN (fun k => !ovB ⟨W, r, c⟩ wl i k) k with
                | true => rw [ha] at hbz; simp at hbz
                | false => simp
            simp (disch := omega) [f1, f2, f34, f35, f36, f8, f9, f10, f44, f45, f46, hs.at hk2, wr_load hs, lastO, lastS, splice44, iz4, l0', keepL l0', lq, keepL lq, getD_take ht2, Wr.cells, ai, ak, hv.load, lpId_ept, eq_true he, eq_true hsz, wrap_i64, hz']
            exact ⟨by omega, hb'⟩
          | false =>
            simp (disch := omega) [f1, f2, f34, f35, f36, f8, f9, f10, f44, f45, f46, hs.at hk2, wr_load hs, lastO, lastS, splice44, iz4, l0', keepL l0', lq, keepL lq, getD_take ht2, Wr.cells, ai, ak, hv.load, lpId_ept, eq_true he, eq_true hsz, hw.stor]
            refine plot_clash (v := W.getD i default) (w := W.getD k default) hw hwi hwk g2 ?_
            have hb' : flagB (clashB ⟨W, r, c⟩ (W.getD i default) (W.getD k default)) b0 (allN (fun k => !ovB ⟨W, r, c⟩ wl i k) (k + 1)) := by
              unfold flagB at hbz ⊢
              rw [allN_eq, ho]
              cases b0 with
              | true => simp at hbz
              | false =>
                simp only [Bool.false_or] at hbz ⊢
                cases ha : allN (fun k => !ovB ⟨W, r, c⟩ wl i k) k with
                | false => rw [ha] at hbz; simp at hbz
                | true => simp
            simp (disch := omega) [f1, f2, f34, f35, f36, f8, f9, f10, f44, f45, f46, l0', keepL l0', lq, keepL lq, Wr.cells, wrap_i64, hz']
            refine ⟨by omega, ?_⟩
            cases hc : clashB ⟨W, r, c⟩ (W.getD i default) (W.getD k default) with
            | true => rw [hc] at hb'; exact Or.inr ⟨rfl, hb'⟩
            | false => rw [hc] at hb'; exact Or.inl ⟨rfl, hb'⟩
        · have hft : fitB ⟨W, r, c⟩ wl i k = true := by simp [fitB, sameB, eq_true he, eq_false hsz]
          have h8 : allN (fitR ⟨W, r, c⟩ wl) W.length = false := allN_not ht (allN_not ht2 (by rw [hft]; rfl))
          rw [cP_fit hval hlen hn h8] at hK
          simp (disch := omega) [f1, f2, f34, f35, f36, f8, f9, f10, f44, f45, f46, hs.at hk2, wr_load hs, lastO, lastS, splice44, iz4, l0', keepL l0', lq, keepL lq, getD_take ht2, Wr.cells, ai, ak, hv.load, lpId_ept, eq_true he, eq_false hsz]
          exact hK
      · have hft : fitB ⟨W, r, c⟩ wl i k = false := by simp [fitB, sameB, eq_false he]
        have ho : ovB ⟨W, r, c⟩ wl i k = false := by simp [ovB, sameB, eq_false he]
        have hz' : allN (fun k => !fitB ⟨W, r, c⟩ wl i k) (k + 1) = true := allN_step hz (by rw [hft]; rfl)
        have hb' : flagB b b0 (allN (fun k => !ovB ⟨W, r, c⟩ wl i k) (k + 1)) := by unfold flagB at hbz ⊢; rw [allN_eq, ho, hbz]; simp
        cases b with
        | true =>
          simp (disch := omega) [f1, f2, f34, f35, f36, f8, f9, f10, f44, f45, f46, hs.at hk2, wr_load hs, lastO, lastS, splice44, iz4, l0', keepL l0', lq, keepL lq, getD_take ht2, Wr.cells, ai, ak, hv.load, lpId_ept, eq_false he, wrap_i64, hz']
          exact ⟨by omega, hb'⟩
        | false =>
          simp (disch := omega) [f1, f2, f34, f35, f36, f8, f9, f10, f44, f45, f46, hs.at hk2, wr_load hs, lastO, lastS, splice44, iz4, l0', keepL l0', lq, keepL lq, getD_take ht2, Wr.cells, ai, ak, hv.load, lpId_ept, eq_false he, wrap_i64, hz']
          exact ⟨by omega, hb'⟩
    · have : k = i := by omega
      subst this
      have hb' : flagB b false (allN (ovR ⟨W, r, c⟩ wl) (k + 1)) := by
        unfold flagB at hbz hb ⊢
        rw [allN_eq, hbz, hb]
        simp [ovR]
      have hf' := allN_step hf hz
      cases b with
      | true =>
        simp (disch := omega) [f1, f2, f34, f35, f36, f8, f44, f45, f46, wrap_i64, l0']
        first | exact ⟨by omega, hf', hb'⟩ | exact ⟨hf', hb'⟩
      | false =>
        simp (disch := omega) [f1, f2, f34, f35, f36, f8, f44, f45, f46, wrap_i64, l0']
        first | exact ⟨by omega, hf', hb'⟩ | exact ⟨hf', hb'⟩
  · have : i = W.length := by omega
    subst this
    unfold flagB at hb
    simp [f8]
    cases hov : allN (ovR ⟨W, r, c⟩ wl) W.length with
    | true =>
      rw [cP_ok hval hlen hn hf hov] at hK
      rw [hov] at hb
      simp [hb]; exact hK
    | false =>
      rw [cP_ov hval hlen hn hf hov] at hK
      rw [hov] at hb
      simp [hb]; exact hK
theorem ref_Check (hw : LstV wrC H wv W) (hv : SlV H v wl) (hK : K (.int .i64 (checkP ⟨W, r, c⟩ wl)) H) : VCall tbl lim 34 [.agg [wv, .int .i64 r, .int .i64 c], v] H K := by
  refine VCall_fn tbl_at34 rfl ?_
  simp [vf34, hw.stor, hw.one, hv.stor]
  refine ref_Validate hw ?_
  by_cases hval : valP ⟨W, r, c⟩ = 0
  case neg =>
    rw [cP_bad hval] at hK
    simp [hval]; exact hK
  obtain ⟨g1, g2, g3, g4, g5⟩ := valP_ok hval
  simp only at g1 g2 g3 g4 g5
  by_cases hwl : wl.length = W.length
  case neg =>
    rw [cP_len hval hwl] at hK
    have d1 : ¬ (wl.length : Int) = (W.length : Int) := by omega
    simp [hval, hw.len, hv.len, hwl, d1]; exact hK
  simp [hval, hw.len, hv.len, hwl]
  refine wLoop_up W.length (fun i fr L H' => (fr 2 = .lp 0 0 ∧ fr 1 = v ∧ fr 6 = .int .i64 i) ∧ L[0]? = some [wv, .int .i64 r, .int .i64 c] ∧ H' = H ∧ allN (nnB wl) i = true) ⟨by simp, rfl, rfl, rfl⟩ ?_
  rintro i hi fr L H' ⟨⟨f2, f1, f6⟩, l0, e0, hn⟩
  have e0 := e0.symm
  subst e0
  simp [f2, f1, f6, hv.len, hwl]
  refine cond_dec (fun ht => ?_) fun hfl => ?_
  · have ht : i < W.length := by omega
    have ai := hv.addr (i := (i : Int)) (by omega)
    simp only [Int.toNat_natCast] at ai
    simp (disch := omega) [f2, f1, f6, ai, hv.load, lpId_ept]
    refine cond_dec (fun hlt => ?_) fun hlt => ?_
    · rw [cP_arg hval hwl (allN_not ht (decide_eq_false (by omega)))] at hK
      simp; exact hK
    · simp (disch := omega) [f2, f1, f6, l0, wrap_i64]
      exact ⟨by omega, allN_step hn (decide_eq_true (by omega))⟩
  have hin : i = W.length := by omega
  rw [hin] at hn
  clear hi hfl f6 hin
  simp [f2, f1]
  refine wLoop_up W.length (fun i fr L H' => (fr 2 = .lp 0 0 ∧ fr 1 = v ∧ fr 7 = .int .i64 i) ∧ L[0]? = some [wv, .int .i64 r, .int .i64 c] ∧ H' = H ∧ allN (fitR ⟨W, r, c⟩ wl) i = true) ⟨by simp [f2, f1], l0, rfl, rfl⟩ ?_
  clear f2 f1 l0
  rintro i hi fr L H' ⟨⟨f2, f1, f7⟩, l0, e0, hf⟩
  have e0 := e0.symm
  subst e0
  simp [f2, f1, f7, hv.len, hwl]
  refine cond_dec (fun ht => ?_) fun hfl => ?_
  · have ht : i < W.length := by omega
    simp [f2, f1, f7]
    refine wLoop_up i (fun k fr L H' => (fr 2 = .lp 0 0 ∧ fr 1 = v ∧ fr 7 = .int .i64 i ∧ fr 8 = .int .i64 k) ∧ L[0]? = some [wv, .int .i64 r, .int .i64 c] ∧ H' = H ∧ allN (fun k => !fitB ⟨W, r, c⟩ wl i k) k = true) ⟨by simp [f2, f1, f7], l0, rfl, rfl⟩ ?_
    clear f2 f1 f7 l0
    rintro k hk fr L H' ⟨⟨f2, f1, f7, f8⟩, l0, e0, hz⟩
    have e0 := e0.symm
    subst e0
    simp [f2, f1, f7, f8]
    refine cond_dec (fun ht2 => ?_) fun hfl2 => ?_
    · have ht2 : k < i := by omega
      have ai := hv.addr (i := (i : Int)) (by omega)
      have ak := hv.addr (i := (k : Int)) (by omega)
      simp only [Int.toNat_natCast] at ai ak
      have fi := hw.faddr (i := i) (j := 1) ht
      have fk := hw.faddr (i := k) (j := 1) (by omega)
      by_cases he : wl.getD i 0 = wl.getD k 0
      · by_cases hsz : (W.getD i default).s = (W.getD k default).s
        · have hft : fitB ⟨W, r, c⟩ wl i k = false := by simp [fitB, eq_true hsz]
          simp (disch := omega) [f2, f1, f7, f8, ai, ak, hv.load, lpId_ept, lpId_eptf, eq_true he, l0, hw.at ht, hw.at (show k < W.length by omega), fi, fk, wr_get hw, eq_true hsz, wrap_i64]
          exact ⟨by omega, allN_step hz (by rw [hft]; rfl)⟩
        · have hft : fitB ⟨W, r, c⟩ wl i k = true := by simp [fitB, sameB, eq_true he, eq_false hsz]
          have h8 : allN (fitR ⟨W, r, c⟩ wl) W.length = false := allN_not ht (allN_not ht2 (by rw [hft]; rfl))
          rw [cP_fit hval hwl hn h8] at hK
          simp (disch := omega) [f2, f1, f7, f8, ai, ak, hv.load, lpId_ept, lpId_eptf, eq_true he, l0, hw.at ht, hw.at (show k < W.length by omega), fi, fk, wr_get hw, eq_false hsz]
          exact hK
      · have hft : fitB ⟨W, r, c⟩ wl i k = false := by simp [fitB, sameB, eq_false he]
        simp (disch := omega) [f2, f1, f7, f8, ai, ak, hv.load, lpId_ept, eq_false he, l0, wrap_i64]
        exact ⟨by omega, allN_step hz (by rw [hft]; rfl)⟩
    · have : k = i := by omega
      subst this
      simp (disch := omega) [f2, f1, f7, l0, wrap_i64]
      exact ⟨by omega, allN_step hf hz⟩
  have hin : i = W.length := by omega
  rw [hin] at hf
  clear hi hfl f7 hin
  simp [f2, f1]
  refine wLoop_up W.length (fun i fr L H' => (fr 2 = .lp 0 0 ∧ fr 1 = v ∧ fr 9 = .int .i64 i) ∧ L[0]? = some [wv, .int .i64 r, .int .i64 c] ∧ H' = H ∧ allN (ovR ⟨W, r, c⟩ wl) i = true) ⟨by simp [f2, f1], l0, rfl, rfl⟩ ?_
  clear f2 f1 l0
  rintro i hi fr L H' ⟨⟨f2, f1, f9⟩, l0, e0, hv0⟩
  have e0 := e0.symm
  subst e0
  simp [f2, f1, f9, hv.len, hwl]
  refine cond_dec (fun ht => ?_) fun hfl => ?_
  · have ht : i < W.length := by omega
    simp [f2, f1, f9]
    refine wLoop_up i (fun k fr L H' => (fr 2 = .lp 0 0 ∧ fr 1 = v ∧ fr 9 = .int .i64 i ∧ fr 10 = .int .i64 k) ∧ L[0]? = some [wv, .int .i64 r, .int .i64 c] ∧ H' = H ∧ allN (fun k => !ovB ⟨W, r, c⟩ wl i k) k = true) ⟨by simp [f2, f1, f9], l0, rfl, rfl⟩ ?_
    clear f2 f1 f9 l0
    rintro k hk fr L H' ⟨⟨f2, f1, f9, f10⟩, l0, e0, hz⟩
    have e0 := e0.symm
    subst e0
    simp [f2, f1, f9, f10]
    refine cond_dec (fun ht2 => ?_) fun hfl2 => ?_
    · have ht2 : k < i := by omega
      have ai := hv.addr (i := (i : Int)) (by omega)
      have ak := hv.addr (i := (k : Int)) (by omega)
      simp only [Int.toNat_natCast] at ai ak
      by_cases he : wl.getD i 0 = wl.getD k 0
      · simp (disch := omega) [f2, f1, f9, f10, ai, ak, hv.load, lpId_ept, eq_true he, l0, hw.stor]
        refine ref_clash hw hval ht (by omega) ?_
        have ho : ovB ⟨W, r, c⟩ wl i k = clashB ⟨W, r, c⟩ (W.getD i default) (W.getD k default) := by simp [ovB, sameB, eq_true he]
        cases hc : clashB ⟨W, r, c⟩ (W.getD i default) (W.getD k default) with
        | true =>
          rw [hc] at ho
          have h10 : allN (ovR ⟨W, r, c⟩ wl) W.length = false := allN_not ht (allN_not ht2 (by rw [ho]; rfl))
          rw [cP_ov hval hwl hn hf h10] at hK
          simp
          exact hK
        | false =>
          rw [hc] at ho
          simp (disch := omega) [f2, f1, f9, f10, l0, wrap_i64]
          exact ⟨by omega, allN_step hz (by rw [ho]; rfl)⟩
      · have ho : ovB ⟨W, r, c⟩ wl i k = false := by simp [ovB, sameB, eq_false he]
        simp (disch := omega) [f2, f1, f9, f10, ai, ak, hv.load, lpId_ept, eq_false he, l0, wrap_i64]
        exact ⟨by omega, allN_step hz (by rw [ho]; rfl)⟩
    · have : k = i := by omega
      subst this
      simp (disch := omega) [f2, f1, f9, l0, wrap_i64]
      exact ⟨by omega, allN_step hv0 hz⟩
  · have : i = W.length := by omega
    subst this
    rw [cP_ok hval hwl hn hf hv0] at hK
    simp
    exact hK
end
/-- a map that tells the numbers of a list -/
def mKeys (l : List Int) : List (V × V) := l.map fun n => (.int .i64 n, .bool true)
theorem mKeys_len {l : List Int} : (mKeys l).length = l.length := by simp [mKeys]
theorem mKeys_snoc {l : List Int} {n : Int} : mKeys (l ++ [n]) = mKeys l ++ [(.int .i64 n, .bool true)] := by simp [mKeys]
theorem eqI {a b : Int} : eqCells [.int .i64] (cellsV (.int .i64 a)) (cellsV (.int .i64 b)) = some (a == b) := by
  have : eqCells [.int .i64] (cellsV (.int .i64 a)) (cellsV (.int .i64 b)) = some ((a == b) && true) := Eq.trans rfl rfl
  rw [this, Bool.and_true]
theorem mfind_step {a b : Int} {u : V} {rest : List (V × V)} : mfind [.int .i64] (.int .i64 a) ((.int .i64 b, u) :: rest) = (if a = b then some (some (0, u)) else match mfind [.int .i64] (.int .i64 a) rest with
      | some (some (i, u)) => some (some (i + 1, u))
      | r => r) := by
  have h : (if isAggV (.int .i64 a) == isAggV (.int .i64 b) then eqCells [.int .i64] (cellsV (.int .i64 a)) (cellsV (.int .i64 b)) else none) = some (a == b) := by rw [eqI]; rfl
  conv => lhs; unfold mfind
  rw [h]
  by_cases e : a = b
  · subst e
    have : (a == a) = true := by simp
    rw [this, if_pos rfl]
  · have : (a == b) = false := by simp [e]
    rw [this, if_neg e]
    rfl
theorem mfind_no {a : Int} : ∀ {l : List Int}, a ∉ l → mfind [.int .i64] (.int .i64 a) (mKeys l) = some none
  | [], _ => Eq.trans rfl rfl
  | b :: l, h => by
    have ih := mfind_no (a := a) (l := l) fun hh => h (List.mem_cons_of_mem _ hh)
    have hne : ¬ a = b := fun e => h (by simp [e])
    have : mKeys (b :: l) = (.int .i64 b, .bool true) :: mKeys l := Eq.trans rfl rfl
    rw [this, mfind_step, if_neg hne, ih]
theorem mfind_yes {a : Int} : ∀ {l : List Int}, a ∈ l → ∃ j, mfind [.int .i64] (.int .i64 a) (mKeys l) = some (some (j, .bool true)) ∧ (mKeys l).set j (.int .i64 a, .bool true) = mKeys l
  | b :: l, h => by
    have hk : mKeys (b :: l) = (.int .i64 b, .bool true) :: mKeys l := Eq.trans rfl rfl
    rw [hk, mfind_step]
    by_cases e : a = b
    · subst e
      rw [if_pos rfl]
      exact ⟨0, rfl, rfl⟩
    · have hm : a ∈ l := by
        rcases List.mem_cons.1 h with h | h
        · exact absurd h e
        · exact h
      obtain ⟨j, h1, h2⟩ := mfind_yes hm
      rw [if_neg e, h1]
      refine ⟨j + 1, rfl, ?_⟩
      simp only [List.set_cons_succ, h2]
section
variable {lim : Nat} {H : Hp} {K : V → Hp → Prop} {wv : V} {W : List Wr} {r c x y q u1 u2 u3 : Int} {v w : V} {wl : List Int} {T : Nat}
theorem keyI {n : Int} : keyOk false [.int .i64] (.int .i64 n) = true := by
  have : keyOk false [.int .i64] (.int .i64 n) = (eqCells [.int .i64] (cellsV (.int .i64 n)) (cellsV (.int .i64 n))).isSome := by
    unfold keyOk; rfl
  rw [this, eqI]; rfl
/-- a number is told -/
theorem mput_I {l : List Int} {n : Int} (hlim : lim ≤ H.length) : ∃ l', vmput lim false [.int .i64] (H ++ [.map (mKeys l)]) (.mp H.length) (.int .i64 n) (.bool true) = some (H ++ [.map (mKeys l')]) ∧ ((n ∈ l ∧ l' = l) ∨ (n ∉ l ∧ l' = l ++ [n])) := by
  have hg : (H ++ [Blk.map (mKeys l)])[H.length]? = some (.map (mKeys l)) := by simp
  have hs : ∀ es, (H ++ [Blk.map (mKeys l)]).set H.length (.map es) = H ++ [.map es] := fun es => by simp
  have hst : (keyOk false [.int .i64] (.int .i64 n) && stor (.bool true)) = true := by rw [keyI]; rfl
  by_cases hm : n ∈ l
  · obtain ⟨j, h1, h2⟩ := mfind_yes hm
    refine ⟨l, ?_, Or.inl ⟨hm, rfl⟩⟩
    simp only [vmput, hlim, if_true, hg, hst, h1, hs, h2]
  · refine ⟨l ++ [n], ?_, Or.inr ⟨hm, rfl⟩⟩
    simp only [vmput, hlim, if_true, hg, hst, mfind_no hm, hs, mKeys_snoc]
theorem vlenM_I {l : List Int} : vlenM (H ++ [.map (mKeys l)]) (.mp H.length) = some (.int .i64 l.length) := by
  have hg : (H ++ [Blk.map (mKeys l)])[H.length]? = some (.map (mKeys l)) := by simp
  simp only [vlenM, hg, mKeys_len]
theorem cnI_le {P : Nat → Bool} : ∀ {n : Nat}, cnI P 0 n ≤ n
  | 0 => Nat.le_refl _
  | n + 1 => by have := cnI_le (P := P) (n := n); simp only [cnI]; split <;> omega
theorem plot_Used (hw : LstV wrC H wv W) (hv : SlV H v wl) (hlim : lim ≤ H.length) (hK : ∀ H', HX H H' → K (.tup [.int .i64 (usedP ⟨W, r, c⟩ wl), .int .i64 (checkP ⟨W, r, c⟩ wl)]) H') : VCall tbl lim 31 [.agg [wv, .int .i64 r, .int .i64 c], v] H K := by
  refine VCall_fn tbl_at31 rfl ?_
  simp [vf31, hw.stor, hw.one, hv.stor]
  refine plot_Check hw hv ?_
  by_cases hch : checkP ⟨W, r, c⟩ wl = 0
  case neg =>
    have := hK H HX.refl
    simp only [usedP, hch, if_false] at this
    simp [hch]; exact this
  have hu : usedP ⟨W, r, c⟩ wl = (cnI (fstB wl) 0 W.length : Int) := by simp [usedP, hch]
  obtain ⟨hval, hlen, _⟩ := checkP_ok hch
  simp only at hlen
  obtain ⟨g1, g2, g3, g4, g5⟩ := valP_ok hval
  simp only at g1 g2 g3 g4 g5
  have hxm : ∀ es, HX H (H ++ [Blk.map es]) := fun es => HX.push
  simp [hch, hv.len, hlen]
  refine wLoop_up W.length (fun i fr L H' => ∃ l, (fr 7 = .mp H.length ∧ fr 17 = v ∧ fr 18 = .int .i64 W.length ∧ fr 19 = .int .i64 i) ∧ H' = H ++ [.map (mKeys l)] ∧ l.length = cnI (fstB wl) 0 i ∧ ∀ n, n ∈ l ↔ ∃ j, j < i ∧ wl.getD j 0 = n) ⟨[], by simp [hv.len, hlen], by simp [mKeys], rfl, fun n => by simp⟩ ?_
  rintro i hi fr L H' ⟨l, ⟨f7, f17, f18, f19⟩, rfl, hl, hm⟩
  have hv1 := hv.mono (hxm (mKeys l))
  simp [f7, f17, f18, f19]
  refine cond_dec (fun ht => ?_) fun hfl => ?_
  · have ht : i < W.length := by omega
    have ai := hv1.addr (i := (i : Int)) (by omega)
    simp only [Int.toNat_natCast] at ai
    obtain ⟨l', hp, hor⟩ := mput_I (lim := lim) (H := H) (l := l) (n := wl.getD i 0) hlim
    have hi1 := hv1.load (i := i) (by omega) (L := L)
    simp (disch := omega) [f7, f17, f18, f19, ai, hi1, lpId_ept, hp, wrap_i64]
    refine ⟨by omega, l', rfl, ?_, ?_⟩
    · have hcn : cnI (fstB wl) 0 (i + 1) = cnI (fstB wl) 0 i + if fstB wl i = true then 1 else 0 := by simp only [cnI, Nat.zero_add]
      rw [hcn]
      rcases hor with ⟨h1, rfl⟩ | ⟨h1, rfl⟩
      · have : fstB wl i = false := fstB_iff.2 ((hm _).1 h1)
        rw [this, hl]; simp
      · have : fstB wl i = true := by
          cases hf : fstB wl i with
          | true => rfl
          | false => exact absurd ((hm _).2 (fstB_iff.1 hf)) h1
        rw [this, List.length_append, hl]; simp
    · intro n
      rcases hor with ⟨h1, rfl⟩ | ⟨h1, rfl⟩
      · rw [hm n]
        constructor
        · rintro ⟨j, a, b⟩; exact ⟨j, by omega, b⟩
        · rintro ⟨j, a, b⟩
          by_cases e : j = i
          · subst e; rw [← b]; exact (hm _).1 h1
          · exact ⟨j, by omega, b⟩
      · rw [List.mem_append, hm n]
        constructor
        · rintro (⟨j, a, b⟩ | h2)
          · exact ⟨j, by omega, b⟩
          · exact ⟨i, by omega, (List.mem_singleton.1 h2).symm⟩
        · rintro ⟨j, a, b⟩
          by_cases e : j = i
          · subst e; exact Or.inr (List.mem_singleton.2 b.symm)
          · exact Or.inl ⟨j, by omega, b⟩
  · have : i = W.length := by omega
    subst this
    have := hK _ (hxm (mKeys l))
    rw [hu, hch, ← hl] at this
    simp [f7, vlenM_I]
    exact this
theorem ref_Used (hw : LstV wrC H wv W) (hv : SlV H v wl) (hK : K (.tup [.int .i64 (usedP ⟨W, r, c⟩ wl), .int .i64 (checkP ⟨W, r, c⟩ wl)]) H) : VCall tbl lim 32 [.agg [wv, .int .i64 r, .int .i64 c], v] H K := by
  refine VCall_fn tbl_at32 rfl ?_
  simp [vf32, hw.stor, hw.one, hv.stor]
  refine ref_Check hw hv ?_
  by_cases hch : checkP ⟨W, r, c⟩ wl = 0
  case neg =>
    simp only [usedP, hch, if_false] at hK
    simp [hch]; exact hK
  obtain ⟨hval, hwl, _⟩ := checkP_ok hch
  simp only at hwl
  obtain ⟨g1, g2, g3, g4, g5⟩ := valP_ok hval
  simp only at g1 g2 g3 g4 g5
  simp only [usedP, hch, if_true] at hK
  simp [hch]
  have cle : ∀ n, cnI (fstB wl) 0 n ≤ n := fun n => by
    induction n with
    | zero => exact Nat.le_refl _
    | succ n ih => simp only [cnI]; split <;> omega
  refine wLoop_up W.length (fun i fr L H' => (fr 1 = v ∧ fr 7 = .int .i64 (cnI (fstB wl) 0 i) ∧ fr 8 = .int .i64 i) ∧ H' = H) ⟨by simp [cnI], rfl⟩ ?_
  rintro i hi fr L H' ⟨⟨f1, f7, f8⟩, e0⟩
  have e0 := e0.symm
  subst e0
  have cli := cle i
  simp [f1, f7, f8, hv.len, hwl]
  refine cond_dec (fun ht => ?_) fun hfl => ?_
  · have ht : i < W.length := by omega
    simp [f1, f7, f8]
    refine wLoop_post 2 (fun fr L H' => (fr 1 = v ∧ fr 7 = .int .i64 (cnI (fstB wl) 0 i) ∧ fr 8 = .int .i64 i ∧ fr 9 = .int .i64 (if fstB wl i = true then 1 else 0)) ∧ H' = H) ?_ ?_
    · refine wLoop_up i (fun k fr L H' => ∃ z : Int, (fr 1 = v ∧ fr 7 = .int .i64 (cnI (fstB wl) 0 i) ∧ fr 8 = .int .i64 i ∧ fr 10 = .int .i64 k ∧ fr 9 = .int .i64 z) ∧ H' = H ∧ ((z = 1 ∧ ∀ j, j < k → wl.getD j 0 ≠ wl.getD i 0) ∨ (z = 0 ∧ ∃ j, j < k ∧ wl.getD j 0 = wl.getD i 0))) ⟨1, by simp [f1, f7, f8], rfl, Or.inl ⟨rfl, fun j hj => by omega⟩⟩ ?_
      clear f1 f7 f8
      rintro k hk fr L H' ⟨z, ⟨f1, f7, f8, f10, f9⟩, e0, hz⟩
      have e0 := e0.symm
      subst e0
      simp [f1, f7, f8, f10, f9]
      refine cond_dec (fun ht2 => ?_) fun hfl2 => ?_
      · have ht2 : k < i := by omega
        have ai := hv.addr (i := (i : Int)) (by omega)
        have ak := hv.addr (i := (k : Int)) (by omega)
        simp only [Int.toNat_natCast] at ai ak
        by_cases he : wl.getD k 0 = wl.getD i 0
        · simp (disch := omega) [f1, f7, f8, f10, f9, ai, ak, hv.load, lpId_ept, eq_true he, wrap_i64]
          exact ⟨by omega, k, by omega, he⟩
        · simp (disch := omega) [f1, f7, f8, f10, f9, ai, ak, hv.load, lpId_ept, eq_false he, wrap_i64]
          refine ⟨by omega, ?_⟩
          rcases hz with ⟨h1, h2⟩ | ⟨h1, j, h2, h3⟩
          · refine Or.inl ⟨h1, fun j hj => ?_⟩
            by_cases e : j = k
            · subst e; exact he
            · exact h2 j (by omega)
          · exact Or.inr ⟨h1, j, by omega, h3⟩
      · have : k = i := by omega
        subst this
        simp [f1, f7, f8, f9]
        rcases hz with ⟨h1, h2⟩ | ⟨h1, j, h2, h3⟩
        · have : fstB wl k = true := by
            cases hf : fstB wl k with
            | true => rfl
            | false => obtain ⟨j, h3, h4⟩ := fstB_iff.1 hf; exact absurd h4 (h2 j h3)
          rw [this, h1]; rfl
        · have : fstB wl k = false := fstB_iff.2 ⟨j, h2, h3⟩
          rw [this, h1]; rfl
    clear f1 f7 f8
    rintro fr L H2 ⟨⟨f1, f7, f8, f9⟩, e0⟩
    have e0 := e0.symm
    subst e0
    have hcn : cnI (fstB wl) 0 (i + 1) = cnI (fstB wl) 0 i + if fstB wl i = true then 1 else 0 := by simp only [cnI, Nat.zero_add]
    cases hf : fstB wl i with
    | true =>
      rw [hf] at f9 hcn
      simp only [if_true] at f9 hcn
      simp (disch := omega) [f1, f7, f8, f9, wrap_i64, hcn]
      omega
    | false =>
      rw [hf] at f9 hcn
      simp only [Bool.false_eq_true, if_false] at f9 hcn
      simp (disch := omega) [f1, f7, f8, f9, wrap_i64, hcn]
      omega
  · have : i = W.length := by omega
    subst this
    simp [f7]
    exact hK
theorem law_PlotChecks {ws : List V} {p : Ply} (hv : PlyV H ws p) (hx : SlV H v wl) (hlim : lim ≤ H.length) (hK : ∀ H', K (.bool true) H') : VCall tbl lim 9 [.agg ws, v] H K := by
  cases hv with
  | mk hw hr hc =>
    rename_i wv W r c
    refine VCall_fn tbl_at9 rfl ?_
    have d1 : decide (100 < (wl.length : Int)) = decide (100 < wl.length) := by simp only [decide_eq_decide]; omega
    simp [vf9, hw.stor, hw.one, hx.stor]
    refine law_long hw ?_
    by_cases h1 : 60 < W.length
    · simp [h1]
      refine law_known hlim fun H1 _ => ?_
      simp; exact hK _
    by_cases h2 : 100 < wl.length
    · simp [h1, h2, hx.len, d1]
      refine law_known hlim fun H1 _ => ?_
      simp; exact hK _
    simp [h1, h2, hx.len, d1, hw.stor, hx.stor]
    refine plot_Used hw hx hlim fun H1 x1 => ?_
    replace x1 : HX H H1 := x1
    have l1 := x1.len
    have hw1 := hw.mono x1
    have hx1 := hx.mono x1
    simp [hw.stor, hx.stor]
    refine ref_Used hw1 hx1 ?_
    simp [hw.stor, hx.stor]
    refine plot_Check hw1 hx1 ?_
    simp [hw.stor, hx.stor]
    refine ref_Check hw1 hx1 ?_
    simp
    refine law_known (Nat.le_refl _) fun H2 _ => ?_
    simp; exact hK _
end
section
variable {lim : Nat} {H : Hp} {K : V → Hp → Prop} {wv mv : V} {W : List Wr} {r c x y q u1 u2 u3 : Int} {v w : V} {wl : List Int} {T : Nat} {Q : List (Int × Int)}
theorem ex_wigs : leP ⟨[⟨0, 9, 0, 5⟩], 0, 0⟩ = 1 ∧ valP ⟨[⟨0, 9, 0, 5⟩], 0, 0⟩ = 0 := by decide +kernel
theorem clashP_in {p : Ply} (hval : valP p = 0) {i k : Nat} (hi : i < p.W.length) (hk : k < p.W.length) : clashP p (i : Int) (k : Int) = (clashB p (p.W.getD i default) (p.W.getD k default), 0) := by
  simp only [clashP, hval, ne_eq, not_true_eq_false, if_false]
  rw [if_neg (by omega)]
  simp only [Int.toNat_natCast]
theorem law_TopWigs {ws : List V} {p : Ply} (hv : PlyV H ws p) (hx : SlV H v wl) (hm : MosV H mv Q ∧ Q.length ≤ maxLen) (hlim : lim ≤ H.length) (hK : ∀ H', K (.bool true) H') : VCall tbl lim 11 [.agg ws, v, mv] H K := by
  obtain ⟨hm, _⟩ := hm
  replace hm : LstV moC H mv Q := hm
  cases hv with
  | mk hw hr hc =>
    rename_i wv W r c
    have e1 : decide (60 < (W.length : Int)) = decide (60 < W.length) := by simp only [decide_eq_decide]; omega
    have e2 : decide (100 < (wl.length : Int)) = decide (100 < wl.length) := by simp only [decide_eq_decide]; omega
    have e3 : decide (60 < (Q.length : Int)) = decide (60 < Q.length) := by simp only [decide_eq_decide]; omega
    refine VCall_fn tbl_at11 rfl ?_
    simp [vf11, hw.stor, hx.stor, hm.stor, hw.one, vbslice_some, splice, iz4, iz3]
    have r1 : (H ++ [Blk.row [V.int .i64 0, V.int .i64 9, V.int .i64 0, V.int .i64 5] true])[H.length]? = some (.row [V.int .i64 0, V.int .i64 9, V.int .i64 0, V.int .i64 5] true) := by simp
    have s1 : LstV wrC _ (.sl H.length 0 1 4) [⟨0, 9, 0, 5⟩] := LstV.sl (c := wrC) (l := [⟨0, 9, 0, 5⟩]) (off := 0) r1 (by decide) (by rfl)
    have x0 : HX H (H ++ [Blk.row [V.int .i64 0, V.int .i64 9, V.int .i64 0, V.int .i64 5] true]) := HX.push
    generalize H ++ [Blk.row [V.int .i64 0, V.int .i64 9, V.int .i64 0, V.int .i64 5] true] = H0 at *
    have l0 := x0.len
    refine plot_Least s1 (by omega) fun H1 x1 => ?_
    replace x1 : HX H0 H1 := x1
    have l1 := x1.len
    rw [ex_wigs.1, ex_wigs.2]
    simp [hw.len, hx.len, hm.len, e1, e2, e3]
    refine cond_bool (fun h => ?_) fun h => ?_
    · simp; exact hK _
    have h : ¬ 60 < W.length ∧ ¬ 100 < wl.length ∧ ¬ 60 < Q.length := by simp at h; omega
    have hw := (hw.mono x0).mono x1
    have hx := (hx.mono x0).mono x1
    have hm := (hm.mono x0).mono x1
    simp [hw.stor]
    refine plot_Least hw (by omega) fun H2 x2 => ?_
    replace x2 : HX H1 H2 := x2
    have l2 := x2.len
    have hw := hw.mono x2
    have hx := hx.mono x2
    have hm := hm.mono x2
    simp [hw.stor]
    refine plot_Assign hw (by omega) fun H3 v3 own x3 o3 ok3 no3 => ?_
    replace x3 : HX H2 H3 := x3
    have l3 := x3.len
    have hw := hw.mono x3
    have hx := hx.mono x3
    have hm := hm.mono x3
    simp [hw.stor]
    refine plot_Moments hw (by omega) fun H4 v4 M x4 hM ok4 no4 => ?_
    replace x4 : HX H3 H4 := x4
    have l4 := x4.len
    have hw := hw.mono x4
    have hx := hx.mono x4
    have hm := hm.mono x4
    have ho := o3.sl.mono x4
    by_cases hval : valP ⟨W, r, c⟩ = 0
    case neg =>
      have h0 : leP ⟨W, r, c⟩ = 0 := by simp [leP, hval]
      simp [eq_false hval, h0, hw.stor, hx.stor]
      refine plot_Check hw hx ?_
      rw [cP_bad hval]
      simp
      exact hK _
    have hU := ok3 hval
    have hR := ok4 hval
    have g1 : W.length ≤ 16 := (valP_ok hval).1
    have hle : leP ⟨W, r, c⟩ = (leastP ⟨W, r, c⟩ : Int) := by simp [leP, hval]
    obtain ⟨u1, u2⟩ := checkP_used hval hU
    simp [hval, hle, hw.stor, ho.stor]
    refine plot_Used hw ho (by omega) fun H5 x5 => ?_
    replace x5 : HX H4 H5 := x5
    have l5 := x5.len
    have hw := hw.mono x5
    have hx := hx.mono x5
    have hm := hm.mono x5
    have ho := ho.mono x5
    have hM := hM.mono x5
    rw [u1, u2]
    simp [hw.stor, hM.stor]
    refine plot_Needs hw hM (by have := hR.len; omega) (by omega) fun H6 x6 => ?_
    replace x6 : HX H5 H6 := x6
    have l6 := x6.len
    have hw := hw.mono x6
    have hx := hx.mono x6
    have hm := hm.mono x6
    have ho := ho.mono x6
    rw [hR.neE hval, hR.neS hval]
    simp [hw.stor, hx.stor]
    refine plot_Used hw hx (by omega) fun H7 x7 => ?_
    replace x7 : HX H6 H7 := x7
    have l7 := x7.len
    have hw := hw.mono x7
    have hm := hm.mono x7
    have ho := ho.mono x7
    simp [hw.stor, hm.stor]
    refine plot_Needs hw hm (by omega) (by omega) fun H8 x8 => ?_
    replace x8 : HX H7 H8 := x8
    have l8 := x8.len
    have hw := hw.mono x8
    have ho := ho.mono x8
    have hwl := hU.len
    simp only at hwl
    have hw8 := hw
    have hany : checkP ⟨W, r, c⟩ wl = 0 → ¬ usedP ⟨W, r, c⟩ wl < (leastP ⟨W, r, c⟩ : Int) := fun h => by
      have := least_used h hR; omega
    have htold : neE ⟨W, r, c⟩ Q = 0 → ¬ (leastP ⟨W, r, c⟩ : Int) < neS ⟨W, r, c⟩ Q := fun h => by
      have := neS_le h; omega
    have hor : (checkP ⟨W, r, c⟩ wl = 0 ∧ neE ⟨W, r, c⟩ Q = 0) ∨ (checkP ⟨W, r, c⟩ wl = 0 ∧ ¬ neE ⟨W, r, c⟩ Q = 0) ∨ (¬ checkP ⟨W, r, c⟩ wl = 0 ∧ neE ⟨W, r, c⟩ Q = 0) ∨ (¬ checkP ⟨W, r, c⟩ wl = 0 ∧ ¬ neE ⟨W, r, c⟩ Q = 0) := by
      by_cases a : checkP ⟨W, r, c⟩ wl = 0 <;> by_cases b : neE ⟨W, r, c⟩ Q = 0 <;> simp [a, b]
    clear hx hm x0 x1 x2 x3 x4 x5 x6 x7 x8
    rcases hor with ⟨q1, q2⟩ | ⟨q1, q2⟩ | ⟨q1, q2⟩ | ⟨q1, q2⟩
    · simp [q1, q2, eq_false (hany q1), eq_false (htold q2)]
      refine wLoop_up W.length (fun i fr L H' => (fr 3 = .lp 0 0 ∧ fr 11 = v3 ∧ fr 23 = .int .i64 i) ∧ L[0]? = some [wv, .int .i64 r, .int .i64 c] ∧ H' = H8) ⟨by simp, rfl, rfl⟩ ?_
      rintro i hi fr L H' ⟨⟨f3, f11, f23⟩, z0, e0⟩
      have e0 := e0.symm
      subst e0
      simp [f3, f11, f23, ho.len, hwl]
      refine cond_dec (fun ht => ?_) fun hfl => ?_
      · have ht : i < W.length := by omega
        simp [f3, f11, f23]
        refine wLoop_up i (fun k fr L H' => (fr 3 = .lp 0 0 ∧ fr 11 = v3 ∧ fr 23 = .int .i64 i ∧ fr 24 = .int .i64 k) ∧ L[0]? = some [wv, .int .i64 r, .int .i64 c] ∧ H' = H8) ⟨by simp [f3, f11, f23], z0, rfl⟩ ?_
        clear f3 f11 f23 z0
        rintro k hk fr L H' ⟨⟨f3, f11, f23, f24⟩, z0, e0⟩
        have e0 := e0.symm
        subst e0
        simp [f3, f11, f23, f24]
        refine cond_dec (fun ht2 => ?_) fun hfl2 => ?_
        · have ht2 : k < i := by omega
          have ai := ho.addr (i := (i : Int)) (by omega)
          have ak := ho.addr (i := (k : Int)) (by omega)
          simp only [Int.toNat_natCast] at ai ak
          simp (disch := omega) [f3, f11, f23, f24, z0, hw.stor]
          refine plot_Clash hw (by constructor <;> omega) (by constructor <;> omega) ?_
          rw [clashP_in hval ht (show k < W.length by omega)]
          cases hc : clashB ⟨W, r, c⟩ (W.getD i default) (W.getD k default) with
          | false =>
            simp (disch := omega) [f3, f11, f23, f24, z0, wrap_i64]
            try omega
          | true =>
            have hne : ¬ own.getD i 0 = own.getD k 0 := fun e => by
              have := hU.ok i k ht (show k < W.length by omega) (by omega) e
              simp only at this
              rw [this] at hc; simp at hc
            simp (disch := omega) [f3, f11, f23, f24, z0, wrap_i64, ai, ak, ho.load, lpId_ept, eq_false hne]
            try omega
        · have : k = i := by omega
          subst this
          simp (disch := omega) [f3, f11, f23, z0, wrap_i64]
          try omega
      · simp
        exact hK _
    · simp [q1, q2, eq_false (hany q1)]
      refine wLoop_up W.length (fun i fr L H' => (fr 3 = .lp 0 0 ∧ fr 11 = v3 ∧ fr 23 = .int .i64 i) ∧ L[0]? = some [wv, .int .i64 r, .int .i64 c] ∧ H' = H8) ⟨by simp, rfl, rfl⟩ ?_
      rintro i hi fr L H' ⟨⟨f3, f11, f23⟩, z0, e0⟩
      have e0 := e0.symm
      subst e0
      simp [f3, f11, f23, ho.len, hwl]
      refine cond_dec (fun ht => ?_) fun hfl => ?_
      · have ht : i < W.length := by omega
        simp [f3, f11, f23]
        refine wLoop_up i (fun k fr L H' => (fr 3 = .lp 0 0 ∧ fr 11 = v3 ∧ fr 23 = .int .i64 i ∧ fr 24 = .int .i64 k) ∧ L[0]? = some [wv, .int .i64 r, .int .i64 c] ∧ H' = H8) ⟨by simp [f3, f11, f23], z0, rfl⟩ ?_
        clear f3 f11 f23 z0
        rintro k hk fr L H' ⟨⟨f3, f11, f23, f24⟩, z0, e0⟩
        have e0 := e0.symm
        subst e0
        simp [f3, f11, f23, f24]
        refine cond_dec (fun ht2 => ?_) fun hfl2 => ?_
        · have ht2 : k < i := by omega
          have ai := ho.addr (i := (i : Int)) (by omega)
          have ak := ho.addr (i := (k : Int)) (by omega)
          simp only [Int.toNat_natCast] at ai ak
          simp (disch := omega) [f3, f11, f23, f24, z0, hw.stor]
          refine plot_Clash hw (by constructor <;> omega) (by constructor <;> omega) ?_
          rw [clashP_in hval ht (show k < W.length by omega)]
          cases hc : clashB ⟨W, r, c⟩ (W.getD i default) (W.getD k default) with
          | false =>
            simp (disch := omega) [f3, f11, f23, f24, z0, wrap_i64]
            try omega
          | true =>
            have hne : ¬ own.getD i 0 = own.getD k 0 := fun e => by
              have := hU.ok i k ht (show k < W.length by omega) (by omega) e
              simp only at this
              rw [this] at hc; simp at hc
            simp (disch := omega) [f3, f11, f23, f24, z0, wrap_i64, ai, ak, ho.load, lpId_ept, eq_false hne]
            try omega
        · have : k = i := by omega
          subst this
          simp (disch := omega) [f3, f11, f23, z0, wrap_i64]
          try omega
      · simp
        exact hK _
    · simp [q1, q2, eq_false (htold q2)]
      refine wLoop_up W.length (fun i fr L H' => (fr 3 = .lp 0 0 ∧ fr 11 = v3 ∧ fr 23 = .int .i64 i) ∧ L[0]? = some [wv, .int .i64 r, .int .i64 c] ∧ H' = H8) ⟨by simp, rfl, rfl⟩ ?_
      rintro i hi fr L H' ⟨⟨f3, f11, f23⟩, z0, e0⟩
      have e0 := e0.symm
      subst e0
      simp [f3, f11, f23, ho.len, hwl]
      refine cond_dec (fun ht => ?_) fun hfl => ?_
      · have ht : i < W.length := by omega
        simp [f3, f11, f23]
        refine wLoop_up i (fun k fr L H' => (fr 3 = .lp 0 0 ∧ fr 11 = v3 ∧ fr 23 = .int .i64 i ∧ fr 24 = .int .i64 k) ∧ L[0]? = some [wv, .int .i64 r, .int .i64 c] ∧ H' = H8) ⟨by simp [f3, f11, f23], z0, rfl⟩ ?_
        clear f3 f11 f23 z0
        rintro k hk fr L H' ⟨⟨f3, f11, f23, f24⟩, z0, e0⟩
        have e0 := e0.symm
        subst e0
        simp [f3, f11, f23, f24]
        refine cond_dec (fun ht2 => ?_) fun hfl2 => ?_
        · have ht2 : k < i := by omega
          have ai := ho.addr (i := (i : Int)) (by omega)
          have ak := ho.addr (i := (k : Int)) (by omega)
          simp only [Int.toNat_natCast] at ai ak
          simp (disch := omega) [f3, f11, f23, f24, z0, hw.stor]
          refine plot_Clash hw (by constructor <;> omega) (by constructor <;> omega) ?_
          rw [clashP_in hval ht (show k < W.length by omega)]
          cases hc : clashB ⟨W, r, c⟩ (W.getD i default) (W.getD k default) with
          | false =>
            simp (disch := omega) [f3, f11, f23, f24, z0, wrap_i64]
            try omega
          | true =>
            have hne : ¬ own.getD i 0 = own.getD k 0 := fun e => by
              have := hU.ok i k ht (show k < W.length by omega) (by omega) e
              simp only at this
              rw [this] at hc; simp at hc
            simp (disch := omega) [f3, f11, f23, f24, z0, wrap_i64, ai, ak, ho.load, lpId_ept, eq_false hne]
            try omega
        · have : k = i := by omega
          subst this
          simp (disch := omega) [f3, f11, f23, z0, wrap_i64]
          try omega
      · simp
        exact hK _
    · simp [q1, q2]
      refine wLoop_up W.length (fun i fr L H' => (fr 3 = .lp 0 0 ∧ fr 11 = v3 ∧ fr 23 = .int .i64 i) ∧ L[0]? = some [wv, .int .i64 r, .int .i64 c] ∧ H' = H8) ⟨by simp, rfl, rfl⟩ ?_
      rintro i hi fr L H' ⟨⟨f3, f11, f23⟩, z0, e0⟩
      have e0 := e0.symm
      subst e0
      simp [f3, f11, f23, ho.len, hwl]
      refine cond_dec (fun ht => ?_) fun hfl => ?_
      · have ht : i < W.length := by omega
        simp [f3, f11, f23]
        refine wLoop_up i (fun k fr L H' => (fr 3 = .lp 0 0 ∧ fr 11 = v3 ∧ fr 23 = .int .i64 i ∧ fr 24 = .int .i64 k) ∧ L[0]? = some [wv, .int .i64 r, .int .i64 c] ∧ H' = H8) ⟨by simp [f3, f11, f23], z0, rfl⟩ ?_
        clear f3 f11 f23 z0
        rintro k hk fr L H' ⟨⟨f3, f11, f23, f24⟩, z0, e0⟩
        have e0 := e0.symm
        subst e0
        simp [f3, f11, f23, f24]
        refine cond_dec (fun ht2 => ?_) fun hfl2 => ?_
        · have ht2 : k < i := by omega
          have ai := ho.addr (i := (i : Int)) (by omega)
          have ak := ho.addr (i := (k : Int)) (by omega)
          simp only [Int.toNat_natCast] at ai ak
          simp (disch := omega) [f3, f11, f23, f24, z0, hw.stor]
          refine plot_Clash hw (by constructor <;> omega) (by constructor <;> omega) ?_
          rw [clashP_in hval ht (show k < W.length by omega)]
          cases hc : clashB ⟨W, r, c⟩ (W.getD i default) (W.getD k default) with
          | false =>
            simp (disch := omega) [f3, f11, f23, f24, z0, wrap_i64]
            try omega
          | true =>
            have hne : ¬ own.getD i 0 = own.getD k 0 := fun e => by
              have := hU.ok i k ht (show k < W.length by omega) (by omega) e
              simp only at this
              rw [this] at hc; simp at hc
            simp (disch := omega) [f3, f11, f23, f24, z0, wrap_i64, ai, ak, ho.load, lpId_ept, eq_false hne]
            try omega
        · have : k = i := by omega
          subst this
          simp (disch := omega) [f3, f11, f23, z0, wrap_i64]
          try omega
      · simp
        exact hK _
end
end Go.Proofs.Ytkmcdiajcnejiaa.Vm
