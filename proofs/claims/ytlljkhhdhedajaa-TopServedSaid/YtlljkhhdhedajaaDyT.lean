/- Package dye over the machine: the gifts of Best, and the least bound; DyeServes. -/
import Derived.Test.YtlljkhhdhedajaaDyS
namespace Go.Proofs.Ytlljkhhdhedajaa.Vm
open Go
set_option maxRecDepth 100000
set_option maxHeartbeats 2000000
set_option linter.unusedSimpArgs false
set_option linter.unusedVariables false
attribute [-simp] List.getD_eq_getElem?_getD
theorem allN_of {f : Nat → Bool} : ∀ {n : Nat}, (∀ i, i < n → f i = true) → allN f n = true
  | 0, _ => rfl
  | n + 1, h => by simp only [allN, h n (by omega), Bool.and_true]; exact allN_of fun i hi => h i (by omega)
section
variable {A l : List Lot} {B : List Wnt} {g : List Int}
theorem su_ext {f : Nat → Int} {n : Nat} : ∀ {m : Nat}, n ≤ m → (∀ i, n ≤ i → i < m → f i = 0) → su f m = su f n
  | 0, h, _ => by have : n = 0 := by omega
                  subst this; rfl
  | m + 1, h, hz => by
    by_cases e : n = m + 1
    · subst e; rfl
    · rw [su, su_ext (m := m) (by omega) fun i h1 h2 => hz i h1 (by omega), hz m (by omega) (by omega)]; omega
theorem fl_g {w k : Nat} (hw : w < 6) (hk : k < 6) : (flOf l g).g w k = g.getD (6 * w + k) 0 := by
  show (if w < 6 ∧ k < 6 then g.getD (w * 6 + k) 0 else 0) = _
  rw [if_pos ⟨hw, hk⟩]; congr 1; omega
theorem smR_su (h0 : ∀ i, 0 ≤ g.getD i 0) {w : Nat} (hw : w < 6) : ∀ {j : Nat}, j ≤ 6 → smR g w j = su ((flOf l g).g w) j
  | 0, _ => rfl
  | j + 1, hj => by
    rw [smR, su, smR_su h0 hw (j := j) (by omega), fl_g hw (by omega)]
    split
    · rfl
    · have := h0 (6 * w + j); omega
theorem smA_su (h0 : ∀ i, 0 ≤ g.getD i 0) (hok : FlOk (netOf A B) (flOf l g)) (hA : A.length ≤ 6) : ∀ {n : Nat}, n ≤ 6 → smA g n = su (gotF (netOf A B) (flOf l g)) n
  | 0, _ => rfl
  | n + 1, hn => by
    rw [smA, su, smA_su h0 hok hA (n := n) (by omega), smR_su (l := l) h0 (by omega) (Nat.le_refl 6)]
    congr 1
    exact su_ext hA fun i h1 h2 => hok.out n i (Or.inr h1)
theorem sum_tot (h0 : ∀ i, 0 ≤ g.getD i 0) (hok : FlOk (netOf A B) (flOf l g)) (hA : A.length ≤ 6) (hB : B.length ≤ 6) : smA g 6 = totF (netOf A B) (flOf l g) := by
  rw [smA_su h0 hok hA (Nat.le_refl 6)]
  exact su_ext hB fun i h1 h2 => su_zero fun k _ => hok.out i k (Or.inl h1)
/-- sums over gifts -/
def sumG (f : Gft → Int) (G : List Gft) : Int := (G.map f).sum
theorem sumG_app {f : Gft → Int} {G G' : List Gft} : sumG f (G ++ G') = sumG f G + sumG f G' := by simp [sumG]
theorem take_g {G : List Gft} {n : Nat} (h : n < G.length) : G.take (n + 1) = G.take n ++ [G.getD n default] := by
  rw [List.take_add_one, List.getElem?_eq_getElem h, List.getD_eq_getElem?_getD, List.getElem?_eq_getElem h]; rfl
theorem cL_sum {G : List Gft} {k : Nat} : ∀ {n : Nat}, n ≤ G.length → cL G k n = sumG (fun e => if e.l = (k : Int) then e.n else 0) (G.take n)
  | 0, _ => by simp [cL, sumG]
  | n + 1, h => by rw [cL, cL_sum (n := n) (by omega), take_g (by omega), sumG_app]; simp [sumG]
theorem cW_sum {G : List Gft} {k : Nat} : ∀ {n : Nat}, n ≤ G.length → cW G k n = sumG (fun e => if e.w = (k : Int) then e.n else 0) (G.take n)
  | 0, _ => by simp [cW, sumG]
  | n + 1, h => by rw [cW, cW_sum (n := n) (by omega), take_g (by omega), sumG_app]; simp [sumG]
theorem sG_sum {G : List Gft} : ∀ {n : Nat}, n ≤ G.length → sG G n = sumG (fun e => e.n) (G.take n)
  | 0, _ => by simp [sG, sumG]
  | n + 1, h => by rw [sG, sG_sum (n := n) (by omega), take_g (by omega), sumG_app]; simp [sumG]
theorem gfR_L (h0 : ∀ i, 0 ≤ g.getD i 0) {w k : Nat} : ∀ {j : Nat}, sumG (fun e => if e.l = (k : Int) then e.n else 0) (gfR g w j) = if k < j then g.getD (6 * w + k) 0 else 0
  | 0 => by simp [gfR, sumG]
  | j + 1 => by
    have ih := gfR_L h0 (w := w) (k := k) (j := j)
    rw [gfR, sumG_app, ih]
    have hj := h0 (6 * w + j)
    by_cases e : k = j
    · subst e
      simp only [Nat.lt_irrefl, if_false, Nat.lt_succ_self, if_true]
      split
      · simp [sumG]
      · simp [sumG]; omega
    · have e2 : (if 0 < g.getD (6 * w + j) 0 then [(⟨w, j, g.getD (6 * w + j) 0⟩ : Gft)] else []) = [] ∨ (if 0 < g.getD (6 * w + j) 0 then [(⟨w, j, g.getD (6 * w + j) 0⟩ : Gft)] else []) = [⟨w, j, g.getD (6 * w + j) 0⟩] := by
        split
        · exact Or.inr rfl
        · exact Or.inl rfl
      have e3 : (k < j + 1) ↔ (k < j) := by omega
      have e4 : ¬ ((j : Int) = (k : Int)) := by omega
      simp only [e3]
      rcases e2 with e2 | e2 <;> rw [e2] <;> simp [sumG, e4]
theorem gfA_L (h0 : ∀ i, 0 ≤ g.getD i 0) {k : Nat} (hk : k < 6) : ∀ {n : Nat}, n ≤ 6 → sumG (fun e => if e.l = (k : Int) then e.n else 0) (gfA g n) = su (fun w => (flOf l g).g w k) n
  | 0, _ => by simp [gfA, sumG, su]
  | n + 1, hn => by
    rw [gfA, sumG_app, gfA_L h0 hk (n := n) (by omega), gfR_L h0, if_pos hk, su, fl_g (by omega) hk]
theorem gfR_W (h0 : ∀ i, 0 ≤ g.getD i 0) {w v : Nat} : ∀ {j : Nat}, sumG (fun e => if e.w = (v : Int) then e.n else 0) (gfR g w j) = if w = v then smR g w j else 0
  | 0 => by simp [gfR, sumG, smR]
  | j + 1 => by
    have ih := gfR_W h0 (w := w) (v := v) (j := j)
    rw [gfR, sumG_app, ih, smR]
    by_cases e : w = v
    · subst e
      simp only [if_true]
      split <;> simp [sumG]
    · have e4 : ¬ ((w : Int) = (v : Int)) := by omega
      simp only [if_neg e]
      split <;> simp [sumG, e4]
theorem gfA_W (h0 : ∀ i, 0 ≤ g.getD i 0) {v : Nat} : ∀ {n : Nat}, sumG (fun e => if e.w = (v : Int) then e.n else 0) (gfA g n) = if v < n then smR g v 6 else 0
  | 0 => by simp [gfA, sumG]
  | n + 1 => by
    rw [gfA, sumG_app, gfA_W h0 (n := n), gfR_W h0]
    by_cases e : n = v
    · subst e; rw [if_neg (by omega), if_pos rfl, if_pos (by omega)]; omega
    · have e3 : (v < n + 1) ↔ (v < n) := by omega
      rw [if_neg e]; simp only [e3]; omega
theorem gfR_N : ∀ {w j : Nat}, sumG (fun e => e.n) (gfR g w j) = smR g w j
  | w, 0 => by simp [gfR, sumG, smR]
  | w, j + 1 => by
    rw [gfR, sumG_app, gfR_N, smR]
    split <;> simp [sumG]
theorem gfA_N : ∀ {n : Nat}, sumG (fun e => e.n) (gfA g n) = smA g n
  | 0 => by simp [gfA, sumG, smA]
  | n + 1 => by rw [gfA, sumG_app, gfA_N, gfR_N, smA]
theorem gfR_mem {e : Gft} {w : Nat} : ∀ {j : Nat}, e ∈ gfR g w j → ∃ k, k < j ∧ 0 < g.getD (6 * w + k) 0 ∧ e = ⟨w, k, g.getD (6 * w + k) 0⟩
  | 0, h => by simp [gfR] at h
  | j + 1, h => by
    rw [gfR, List.mem_append] at h
    rcases h with h | h
    · obtain ⟨k, h1, h2⟩ := gfR_mem h
      exact ⟨k, by omega, h2⟩
    · split at h
      · rename_i hp
        exact ⟨j, by omega, hp, by simpa using h⟩
      · simp at h
theorem gfA_mem {e : Gft} : ∀ {n : Nat}, e ∈ gfA g n → ∃ w k, w < n ∧ k < 6 ∧ 0 < g.getD (6 * w + k) 0 ∧ e = ⟨w, k, g.getD (6 * w + k) 0⟩
  | 0, h => by simp [gfA] at h
  | n + 1, h => by
    rw [gfA, List.mem_append] at h
    rcases h with h | h
    · obtain ⟨w, k, h1, h2⟩ := gfA_mem h
      exact ⟨w, k, by omega, h2⟩
    · obtain ⟨k, h1, h2, h3⟩ := gfR_mem h
      exact ⟨n, k, by omega, h1, h2, h3⟩
theorem firstE_zero {G : List Gft} : ∀ {n : Nat}, (∀ j, j < n → giftE A B (G.getD j default) = 0) → firstE A B G n = 0
  | 0, _ => rfl
  | n + 1, h => by rw [firstE, if_pos (firstE_zero fun j hj => h j (by omega)), h n (by omega)]
/-- what is shared is right -/
theorem best_check (hv : valP A B = 0) (hg : g.length = 36) (h0 : ∀ i, 0 ≤ g.getD i 0 ∧ g.getD i 0 ≤ 1000000) (hb : BestG A B g) : checkP A B (gfA g 6) = (mostF (netOf A B), 0) ∧ smA g 6 = mostF (netOf A B) := by
  obtain ⟨l, hok, hle, htot⟩ := hb
  obtain ⟨b1, b2, b3, b4⟩ := net_bd hv
  have h0' : ∀ i, 0 ≤ g.getD i 0 := fun i => (h0 i).1
  have hsum := sum_tot h0' hok b1 b2
  have hfb := (flow_bd hv hok).2
  refine ⟨?_, by rw [hsum, htot]⟩
  have hf : firstE A B (gfA g 6) (gfA g 6).length = 0 := firstE_zero fun j hj => by
    have hm : (gfA g 6).getD j default ∈ gfA g 6 := by
      rw [List.getD_eq_getElem?_getD, List.getElem?_eq_getElem hj]; exact List.getElem_mem hj
    obtain ⟨w, k, hw, hk, hp, e⟩ := gfA_mem hm
    rw [e]
    have e1 := fl_g (l := l) (g := g) hw hk
    have hwB : w < B.length := by
      apply Classical.byContradiction
      intro hn
      have := hok.out w k (Or.inl (by simpa [netOf] using hn))
      rw [e1] at this; omega
    have hkA : k < A.length := by
      apply Classical.byContradiction
      intro hn
      have := hok.out w k (Or.inr (by simpa [netOf] using hn))
      rw [e1] at this; omega
    have hgv := hok.giv w hwB k hkA
    rw [e1] at hgv
    have hnr := hgv.2 hp
    have hbd := hfb w k
    rw [e1] at hbd
    unfold giftE
    rw [if_neg (by simp only; omega), if_neg (by simp only; omega)]
    simp only [Int.toNat_natCast]
    exact if_pos hnr
  have hL : allN (lotsOk A (gfA g 6)) A.length = true := allN_of fun k hk => by
    have e : cL (gfA g 6) k (gfA g 6).length = su (fun w => (flOf l g).g w k) B.length := by
      rw [cL_sum (Nat.le_refl _), List.take_length, gfA_L (l := l) h0' (by omega) (Nat.le_refl 6)]
      exact su_ext b2 fun i h1 h2 => hok.out i k (Or.inl h1)
    have hlot := hok.lot k hk
    simp only [netOf] at hlot
    unfold lotsOk
    rw [e]
    simp only [Bool.not_eq_true', decide_eq_false_iff_not]
    omega
  have hW : allN (wntsOk B (gfA g 6)) B.length = true := allN_of fun w hw => by
    have e : cW (gfA g 6) w (gfA g 6).length = gotF (netOf A B) (flOf l g) w := by
      rw [cW_sum (Nat.le_refl _), List.take_length, gfA_W h0', if_pos (by omega), smR_su (l := l) h0' (by omega) (Nat.le_refl 6)]
      exact su_ext b1 fun i h1 h2 => hok.out w i (Or.inr h1)
    have := hle w hw
    unfold wntsOk
    rw [e]
    simp only [Bool.not_eq_true', decide_eq_false_iff_not]
    omega
  have hS : sG (gfA g 6) (gfA g 6).length = mostF (netOf A B) := by
    rw [sG_sum (Nat.le_refl _), List.take_length, gfA_N, hsum, htot]
  unfold checkP
  rw [if_pos hv, if_pos hf, if_pos ⟨hL, hW⟩, hS]
end
end Go.Proofs.Ytlljkhhdhedajaa.Vm
