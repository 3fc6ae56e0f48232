/- Fields of directions over the machine: what turns along an edge, which fields are valid. -/
import Derived.Test.YtnfhccioglpjhaaFlB
namespace Go.Proofs.Ytnfhccioglpjhaa.Vm
open Go
set_option maxRecDepth 100000
set_option linter.unusedSimpArgs false
set_option linter.unusedVariables false
attribute [-simp] List.getD_eq_getElem?_getD

def nrm (n : Int) : Int := (n + 3) % 8 - 3
def cntE (P : List Ed) (x y u : Int) : Nat → Int
  | 0 => 0
  | i + 1 => cntE P x y u i + if (P.getD i default).x = x ∧ (P.getD i default).y = y ∧ (P.getD i default).u = u then 1 else 0
def dlt (w : Nat) (D : List Int) (x y u : Int) : Int := D.getD (if u = 1 then y * w + x + w else y * w + x + 1).toNat 0 - D.getD (y * w + x).toNat 0
def tnP (w : Nat) (D : List Int) (P : List Ed) (x y u : Int) : Int := nrm (dlt w D x y u + 4 * cntE P x y u P.length)
theorem cntE_bd {P : List Ed} {x y u : Int} : ∀ i, 0 ≤ cntE P x y u i ∧ cntE P x y u i ≤ i
  | 0 => by simp [cntE]
  | i + 1 => by
    have := cntE_bd (P := P) (x := x) (y := y) (u := u) i
    simp only [cntE]; split <;> omega
theorem cntE_mono {P : List Ed} {x y u : Int} {i : Nat} : ∀ {j}, i ≤ j → cntE P x y u i ≤ cntE P x y u j
  | 0, h => by have : i = 0 := by omega
               subst this; exact Int.le_refl _
  | j + 1, h => by
    by_cases e : i = j + 1
    · subst e; exact Int.le_refl _
    · have := cntE_mono (P := P) (x := x) (y := y) (u := u) (i := i) (j := j) (by omega)
      simp only [cntE]; split <;> omega
def dOk (D : List Int) (i : Nat) : Bool := decide (0 ≤ D.getD i 0 ∧ D.getD i 0 ≤ 7)
def pOk (W Q : Int) (P : List Ed) (i : Nat) : Bool := isEB W Q (P.getD i default).x (P.getD i default).y (P.getD i default).u && (decide (i = 0) || decide (bef (P.getD (i - 1) default) (P.getD i default)))
def shOk (w : Nat) (D : List Int) (P : List Ed) (l : List Ed) (i : Nat) : Bool := !decide (tnP w D P (l.getD i default).x (l.getD i default).y (l.getD i default).u = 4)
def validP (W Q : Int) (D : List Int) (P : List Ed) : Int :=
  if W < 1 ∨ 12 < W ∨ Q < 1 ∨ 12 < Q ∨ (D.length : Int) ≠ W * Q then 1
  else if allN (dOk D) D.length = false then 1
  else if 60 < P.length then 4
  else if allN (pOk W Q P) P.length = false then 1
  else if allN (shOk W.toNat D P (edL W.toNat Q.toNat W.toNat)) (edL W.toNat Q.toNat W.toNat).length = false then 9 else 0

/-- a field whose lists are in order -/
structure PreF (w q : Nat) (D : List Int) (P : List Ed) : Prop where
  w1 : 1 ≤ w ∧ w ≤ 12
  q1 : 1 ≤ q ∧ q ≤ 12
  dl : (D.length : Int) = (w : Int) * q
  dd : ∀ i, 0 ≤ D.getD i 0 ∧ D.getD i 0 ≤ 7
  pl : P.length ≤ 60
  po : ∀ i, i < P.length → pOk w q P i = true

theorem bef_trans {a b c : Ed} (h : bef a b) (h2 : bef b c) : bef a c := by unfold bef at *; omega
theorem PreF.sorted {w q : Nat} {D : List Int} {P : List Ed} (h : PreF w q D P) : ∀ {j i}, i < j → j < P.length → bef (P.getD i default) (P.getD j default)
  | 0, i, hi, _ => by omega
  | j + 1, i, hi, hj => by
    have h1 : bef (P.getD j default) (P.getD (j + 1) default) := by
      have := h.po (j + 1) hj
      simp only [pOk, Bool.and_eq_true, Bool.or_eq_true, decide_eq_true_eq, Nat.add_sub_cancel] at this
      exact this.2.resolve_left (by omega)
    by_cases e : i = j
    · subst e; exact h1
    · exact bef_trans (h.sorted (j := j) (by omega) (by omega)) h1
theorem PreF.one {w q : Nat} {D : List Int} {P : List Ed} (h : PreF w q D P) {x y u : Int} : cntE P x y u P.length ≤ 1 := by
  have key : ∀ i, i ≤ P.length → cntE P x y u i ≤ 1 ∧ (0 < cntE P x y u i → ∃ j, j < i ∧ (P.getD j default).x = x ∧ (P.getD j default).y = y ∧ (P.getD j default).u = u) := by
    intro i
    induction i with
    | zero => intro _; simp [cntE]
    | succ i ih =>
      intro hi
      obtain ⟨a, b⟩ := ih (by omega)
      simp only [cntE]
      split
      · rename_i e
        have : ¬ 0 < cntE P x y u i := by
          intro hp
          obtain ⟨j, hj, f⟩ := b hp
          have := h.sorted hj (by omega)
          unfold bef at this
          omega
        exact ⟨by omega, fun _ => ⟨i, by omega, e⟩⟩
      · refine ⟨by omega, fun hp => ?_⟩
        obtain ⟨j, hj, f⟩ := b (by omega)
        exact ⟨j, by omega, f⟩
  exact (key _ (Nat.le_refl _)).1
theorem tm8 {n : Int} (h : -8 < n) : ((n.tmod 8) + 8).tmod 8 = n % 8 := by
  by_cases h0 : 0 ≤ n
  · rw [Int.tmod_eq_emod_of_nonneg h0, Int.tmod_eq_emod_of_nonneg (by omega)]; omega
  · rcases (show n = -1 ∨ n = -2 ∨ n = -3 ∨ n = -4 ∨ n = -5 ∨ n = -6 ∨ n = -7 by omega) with rfl | rfl | rfl | rfl | rfl | rfl | rfl <;> rfl
theorem isEB_u {W Q x y u : Int} (h : isEB W Q x y u = true) : u = 0 ∨ u = 1 := by
  simp only [isEB, decide_eq_true_eq] at h; omega
/-- the places of an edge -/
theorem PreF.idx {w q : Nat} {D : List Int} {P : List Ed} (h : PreF w q D P) {x y u : Int} (he : isEB w q x y u = true) :
    0 ≤ y * w ∧ y * (w : Int) ≤ 144 ∧ 0 ≤ x ∧ x ≤ 12 ∧ 0 ≤ y ∧ y ≤ 12 ∧ y * w + x < D.length ∧ (u = 0 → y * w + x + 1 < D.length) ∧ (u = 1 → y * w + x + w < D.length) := by
  have hw := h.w1
  have hq := h.q1
  have hd := h.dl
  simp only [isEB, decide_eq_true_eq] at he
  have m1 := mul_bd (a := y) (b := (w : Int)) (A := 12) (B := 12) (by omega) (by omega)
  have m2 : (y + 1) * (w : Int) ≤ (q : Int) * w := Int.mul_le_mul_of_nonneg_right (by omega) (by omega)
  have m3 : u = 1 → (y + 2) * (w : Int) ≤ (q : Int) * w := fun _ => Int.mul_le_mul_of_nonneg_right (by omega) (by omega)
  rw [Int.add_mul, Int.one_mul] at m2
  rw [Int.mul_comm (w : Int)] at hd
  have e3 : (y + 2) * (w : Int) = y * w + 2 * w := Int.add_mul _ _ _
  rw [e3] at m3
  generalize y * (w : Int) = a at *
  generalize (q : Int) * (w : Int) = b at *
  refine ⟨by omega, by omega, by omega, by omega, by omega, by omega, by omega, fun _ => by omega, fun _ => by omega⟩
theorem PreF.dlt_bd {w q : Nat} {D : List Int} {P : List Ed} (h : PreF w q D P) {x y u : Int} : -7 ≤ dlt w D x y u ∧ dlt w D x y u ≤ 7 := by
  have a := h.dd (if u = 1 then y * w + x + w else y * w + x + 1).toNat
  have b := h.dd (y * w + x).toNat
  simp only [dlt]; omega
theorem tnP_bd {w : Nat} {D : List Int} {P : List Ed} {x y u : Int} : -3 ≤ tnP w D P x y u ∧ tnP w D P x y u ≤ 4 := by
  unfold tnP nrm; omega

section
variable {lim : Nat} {H : Hp} {K : V → Hp → Prop} {v d p : V} {D : List Int} {P : List Ed} {W Q x y u : Int} {w q : Nat}
theorem flow_eighth {n : Int} (h : -8 < n ∧ n < 1000000) (hK : K (.int .i64 (n % 8)) H) : VCall tbl lim 46 [.int .i64 n] H K := by
  refine VCall_fn tbl_at46 rfl ?_
  have b1 : -8 < n.tmod 8 ∧ n.tmod 8 < 8 := by
    by_cases h0 : 0 ≤ n
    · rw [Int.tmod_eq_emod_of_nonneg h0]; omega
    · rcases (show n = -1 ∨ n = -2 ∨ n = -3 ∨ n = -4 ∨ n = -5 ∨ n = -6 ∨ n = -7 by omega) with rfl | rfl | rfl | rfl | rfl | rfl | rfl <;> decide
  have t := tm8 h.1
  have b2 : 0 ≤ n % 8 ∧ n % 8 < 8 := by omega
  simp (disch := omega) [vf46, wrap_i64, t]
  exact hK
theorem flow_turning (hd : SlV H d D) (hp : EdV H p P) (hf : PreF w q D P) (he : isEB w q x y u = true) (hK : K (.int .i64 (tnP w D P x y u)) H) : VCall tbl lim 35 [.agg [.int .i64 w, .int .i64 q, d, p], .agg [.int .i64 x, .int .i64 y, .int .i64 u]] H K := by
  refine VCall_fn tbl_at35 rfl ?_
  have hx := hf.idx he
  have hdd := hf.dlt_bd (x := x) (y := y) (u := u)
  have da := hf.dd (y * w + x).toNat
  have db := hf.dd (y * w + x + 1).toNat
  have dc := hf.dd (y * w + x + w).toNat
  have hpl := hf.pl
  have hw := hf.w1
  have w1 : IntKind.i64.wrap (y * (w : Int)) = y * w := wrap_i64 (by omega) (by omega)
  have hc := cntE_bd (P := P) (x := x) (y := y) (u := u) P.length
  have fin : nrm (dlt w D x y u + 4 * cntE P x y u P.length) = if 4 < (dlt w D x y u + 4 * cntE P x y u P.length) % 8 then (dlt w D x y u + 4 * cntE P x y u P.length) % 8 - 8 else (dlt w D x y u + 4 * cntE P x y u P.length) % 8 := by
    unfold nrm; split <;> omega
  simp only [tnP, fin] at hK
  rcases isEB_u he with rfl | rfl
  · simp (disch := omega) [vf35, hd.stor, hp.stor, hp.len, w1, wrap_i64, hd.addr, hd.load]
    refine wLoop_up P.length (fun i fr L H' => ∃ X, (fr 3 = .lp 1 0 ∧ fr 7 = .int .i64 (dlt w D x y 0 + 4 * cntE P x y 0 i) ∧ fr 39 = p ∧ fr 40 = .int .i64 P.length ∧ fr 41 = .int .i64 i) ∧ L = [.int .i64 w, .int .i64 q, d, p] :: [.int .i64 x, .int .i64 y, .int .i64 0] :: X ∧ H' = H) ⟨[], by simp [dlt, cntE], rfl, rfl⟩ ?_
    rintro i hi fr L H' ⟨X, ⟨f3, f7, f39, f40, f41⟩, rfl, rfl⟩
    simp [f3, f7, f39, f40, f41]
    refine cond_dec (fun ht => ?_) fun hfl => ?_
    · have ht : i < P.length := by omega
      have hci := cntE_bd (P := P) (x := x) (y := y) (u := 0) i
      simp (disch := omega) [f3, f7, f39, f40, f41, hp.addr, hp.load, lastO, lastS, veqA_3]
      refine cond_bool (fun h => ?_) fun h => ?_
      · have h : (P.getD i default).x = x ∧ (P.getD i default).y = y ∧ (P.getD i default).u = 0 := by simpa using h
        have e : cntE P x y 0 (i + 1) = cntE P x y 0 i + 1 := by simp only [cntE]; rw [if_pos h]
        simp (disch := omega) [f3, f7, f39, f40, f41, wrap_i64, e]
        omega
      · have h : ¬ ((P.getD i default).x = x ∧ (P.getD i default).y = y ∧ (P.getD i default).u = 0) := by simpa using h
        have e : cntE P x y 0 (i + 1) = cntE P x y 0 i := by simp only [cntE]; rw [if_neg h]; omega
        simp (disch := omega) [f3, f7, f39, f40, f41, wrap_i64, e]
        omega
    · have : i = P.length := by omega
      subst this
      simp [f3, f7]
      refine flow_eighth (by omega) ?_
      simp
      refine cond_dec (fun h => ?_) fun h => ?_
      · simp (disch := omega) [wrap_i64]
        simpa [h] using hK
      · simp
        simpa [h] using hK
  · simp (disch := omega) [vf35, hd.stor, hp.stor, hp.len, w1, wrap_i64, hd.addr, hd.load]
    refine wLoop_up P.length (fun i fr L H' => ∃ X, (fr 3 = .lp 1 0 ∧ fr 7 = .int .i64 (dlt w D x y 1 + 4 * cntE P x y 1 i) ∧ fr 39 = p ∧ fr 40 = .int .i64 P.length ∧ fr 41 = .int .i64 i) ∧ L = [.int .i64 w, .int .i64 q, d, p] :: [.int .i64 x, .int .i64 y, .int .i64 1] :: X ∧ H' = H) ⟨[], by simp [dlt, cntE], rfl, rfl⟩ ?_
    rintro i hi fr L H' ⟨X, ⟨f3, f7, f39, f40, f41⟩, rfl, rfl⟩
    simp [f3, f7, f39, f40, f41]
    refine cond_dec (fun ht => ?_) fun hfl => ?_
    · have ht : i < P.length := by omega
      have hci := cntE_bd (P := P) (x := x) (y := y) (u := 1) i
      simp (disch := omega) [f3, f7, f39, f40, f41, hp.addr, hp.load, lastO, lastS, veqA_3]
      refine cond_bool (fun h => ?_) fun h => ?_
      · have h : (P.getD i default).x = x ∧ (P.getD i default).y = y ∧ (P.getD i default).u = 1 := by simpa using h
        have e : cntE P x y 1 (i + 1) = cntE P x y 1 i + 1 := by simp only [cntE]; rw [if_pos h]
        simp (disch := omega) [f3, f7, f39, f40, f41, wrap_i64, e]
        omega
      · have h : ¬ ((P.getD i default).x = x ∧ (P.getD i default).y = y ∧ (P.getD i default).u = 1) := by simpa using h
        have e : cntE P x y 1 (i + 1) = cntE P x y 1 i := by simp only [cntE]; rw [if_neg h]; omega
        simp (disch := omega) [f3, f7, f39, f40, f41, wrap_i64, e]
        omega
    · have : i = P.length := by omega
      subst this
      simp [f3, f7]
      refine flow_eighth (by omega) ?_
      simp
      refine cond_dec (fun h => ?_) fun h => ?_
      · simp (disch := omega) [wrap_i64]
        simpa [h] using hK
      · simp
        simpa [h] using hK
end
end Go.Proofs.Ytnfhccioglpjhaa.Vm
