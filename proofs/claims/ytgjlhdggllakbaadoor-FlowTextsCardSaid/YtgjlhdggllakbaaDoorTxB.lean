/- Texts of bundles (pure): both readers accept the same texts, and read the same of them. -/
import Derived.Test.YtgjlhdggllakbaaDoorHaF
import Derived.Test.YtgjlhdggllakbaaDoorTxA
namespace Go.Proofs.YtgjlhdggllakbaaDoor.Vm
open Go
set_option linter.unusedSimpArgs false
set_option linter.unusedVariables false
attribute [-simp] List.getD_eq_getElem?_getD

/-- the value of digits -/
def valD (l : List UInt8) : Nat := l.foldl (fun n b => 10 * n + (b.toNat - 48)) 0
theorem valD_snoc {l : List UInt8} {b : UInt8} : valD (l ++ [b]) = 10 * valD l + (b.toNat - 48) := by simp [valD]
theorem valD_dd (u : Nat) : valD (Lib.decDigits u) = u := by
  induction u using Nat.strongRecOn with
  | _ u ih =>
    by_cases h : u < 10
    · rw [Lib.decDigits_one h]
      obtain ⟨h1, h2⟩ := dg_of h
      show 10 * 0 + ((UInt8.ofNat (48 + u)).toNat - 48) = u
      rw [h2]; omega
    · rw [dd_big h, valD_snoc, ih (u / 10) (by omega)]
      obtain ⟨h1, h2⟩ := dg_of (d := u % 10) (by omega)
      rw [h2]; omega
theorem dd_len : ∀ (k u : Nat), u < 10 ^ (k + 1) → (Lib.decDigits u).length ≤ k + 1
  | 0, u, h => by rw [Lib.decDigits_one (by simpa using h)]; simp
  | k + 1, u, h => by
    by_cases h1 : u < 10
    · rw [Lib.decDigits_one h1]; simp
    · rw [dd_big h1, List.length_append]
      have := dd_len k (u / 10) (by rw [Nat.pow_succ] at h; omega)
      simp; omega
/-- the reference's reader of a number -/
def dgB (b : UInt8) : Bool := decide (48 ≤ b.toNat) && decide (b.toNat ≤ 57)
def numR (l : List UInt8) : Int := if l.all dgB ∧ l.length ≤ 9 ∧ l ≠ [] ∧ Lib.decDigits (valD l) = l then (valD l : Int) else -1
theorem numR_dd {n : Nat} (h : n < 1000000000) : numR (Lib.decDigits n) = n := by
  unfold numR
  rw [valD_dd, if_pos]
  refine ⟨?_, dd_len 8 n (by simpa using h), dd_ne n, rfl⟩
  rw [List.all_eq_true]
  intro b hb
  obtain ⟨h1, h2⟩ := dd_dg n b hb
  simp [dgB, h1, h2]
def RdH.stepR (x : RdH) (w : List UInt8) : RdH := if w = wrongL ∧ x.k = false then { x with k := true } else if x.k then { x with w := x.w ++ [numR w] } else { x with r := x.r ++ [numR w] }
def rdR (l : List (List UInt8)) : RdH := (l.drop 1).foldl RdH.stepR ⟨false, [], []⟩
def midL (l : List Nat) : Prop := ∀ n ∈ l, n < 1000000000
theorem rdR_right : ∀ {l : List Nat} {r w : List Int}, midL l → (l.map Lib.decDigits).foldl RdH.stepR ⟨false, r, w⟩ = ⟨false, r ++ ints' l, w⟩
  | [], r, w, _ => by simp [ints']
  | n :: l, r, w, h => by
    have e : RdH.stepR ⟨false, r, w⟩ (Lib.decDigits n) = ⟨false, r ++ [(n : Int)], w⟩ := by
      unfold RdH.stepR
      rw [if_neg (fun hh => dd_wrong hh.1), numR_dd (h n (by simp))]; rfl
    rw [List.map_cons, List.foldl_cons, e, rdR_right fun m hm => h m (by simp [hm])]
    simp [ints']
theorem rdR_wrong : ∀ {l : List Nat} {r w : List Int}, midL l → (l.map Lib.decDigits).foldl RdH.stepR ⟨true, r, w⟩ = ⟨true, r, w ++ ints' l⟩
  | [], r, w, _ => by simp [ints']
  | n :: l, r, w, h => by
    have e : RdH.stepR ⟨true, r, w⟩ (Lib.decDigits n) = ⟨true, r, w ++ [(n : Int)]⟩ := by
      unfold RdH.stepR
      rw [if_neg (fun hh => dd_wrong hh.1), numR_dd (h n (by simp))]; rfl
    rw [List.map_cons, List.foldl_cons, e, rdR_wrong fun m hm => h m (by simp [hm])]
    simp [ints']
theorem rdR_fmtH {r w : List Nat} (hr : midL r) (hw : midL w) : rdR (wds 32 (fmtH r w)) = ⟨true, ints' r, ints' w⟩ := by
  have e2 : ∀ r, RdH.stepR ⟨false, r, []⟩ wrongL = ⟨true, r, []⟩ := fun r => by
    unfold RdH.stepR
    rw [if_pos ⟨rfl, rfl⟩]
  unfold rdR
  rw [wds_fmtH, List.drop_one, List.tail_cons, List.foldl_append, rdR_right hr, List.foldl_cons, e2, rdR_wrong hw]
  simp
/-! the text of a bundle -/
def toN (l : List Int) : List Nat := l.map Int.toNat
theorem ints_toN : ∀ {l : List Int}, (∀ x ∈ l, 0 ≤ x) → ints' (toN l) = l
  | [], _ => rfl
  | x :: l, h => by
    have := h x (by simp)
    show ((x.toNat : Nat) : Int) :: ints' (toN l) = _
    rw [ints_toN fun y hy => h y (by simp [hy])]
    congr 1; omega
def rS (r w : List Int) : List Int := sideF (op r w) 0
def wS (r w : List Int) : List Int := sideF (op r w) 1
def fmtB (r w : List Int) : List UInt8 := fmtH (toN (rS r w)) (toN (wS r w))
theorem side_bd {r w : List Int} {way : Nat} : ∀ x ∈ sideF (op r w) way, 0 ≤ x ∧ x ≤ 1000000 := by
  intro x hx
  simp only [sideF, listN, List.mem_map] at hx
  obtain ⟨i, -, rfl⟩ := hx
  exact op_bd _ _
theorem toN_mid {r w : List Int} {way : Nat} : midL (toN (sideF (op r w) way)) := by
  intro n hn
  simp only [toN, List.mem_map] at hn
  obtain ⟨x, hx, rfl⟩ := hn
  have := side_bd x hx
  omega
theorem mid_big {l : List Nat} (h : midL l) : bigL l := fun n hn => by have := h n hn; omega
theorem lastN_zero {f : Nat → Int} : ∀ {k n : Nat}, lastN f k < n → n ≤ k → f n = 0
  | 0, n, h1, h2 => by omega
  | k + 1, n, h1, h2 => by
    simp only [lastN] at h1
    split at h1
    · rename_i h
      by_cases e : n = k + 1
      · rw [e]; exact h
      · exact lastN_zero h1 (by omega)
    · omega
theorem errOf_sides {r w : List Int} : errOf (rS r w) (wS r w) = 0 := by
  have l : ∀ way, (sideF (op r w) way).length ≤ 24 := fun way => by simp only [sideF, listN_length]; exact lastN_le _ _
  have n : ∀ way, anyNeg (sideF (op r w) way) = false := fun way => by
    simp only [anyNeg, List.any_eq_false]
    intro x hx
    have := side_bd x hx
    simp; omega
  have b : ∀ way, anyBig (sideF (op r w) way) = false := fun way => by
    simp only [anyBig, List.any_eq_false]
    intro x hx
    have := side_bd x hx
    simp; omega
  have l0 := l 0
  have l1 := l 1
  unfold errOf rS wS
  rw [if_neg (by omega), if_neg (by simp [n]), if_neg (by simp [b])]
theorem op_sides {r w : List Int} (he : errOf r w = 0) : op (rS r w) (wS r w) = op r w := by
  funext way n
  have key : ∀ way', (way' = 0 ↔ way = 0) → (sideF (op r w) way').getD (n - 1) 0 = op r w way n := by
    intro way' hw
    have e1 : ∀ m, op r w way' m = op r w way m := fun m => by
      unfold op; simp only [he, if_true, hw]
    obtain ⟨j, hj⟩ : ∃ j, j = n - 1 := ⟨_, rfl⟩
    have e2 : op r w way n = op r w way' (j + 1) := by
      rw [e1]
      unfold op; simp only [he, if_true]
      congr 1; omega
    rw [e2, ← hj]
    unfold sideF
    by_cases h : j < lastN (op r w way') 24
    · rw [List.getD_eq_getElem?_getD, listN, List.getElem?_map, List.getElem?_range h]; rfl
    · rw [List.getD_eq_getElem?_getD, List.getElem?_eq_none (by simpa using h)]
      show (0 : Int) = _
      by_cases h24 : j + 1 ≤ 24
      · exact (lastN_zero (by omega) h24).symm
      · obtain ⟨l1, l2, _⟩ := errOf_zero he
        unfold op
        simp only [he, if_true]
        split
        · rw [getD_big (by omega)]
        · rw [getD_big (by omega)]
  show (if errOf (rS r w) (wS r w) = 0 then (if way = 0 then rS r w else wS r w).getD (n - 1) 0 else 0) = _
  rw [errOf_sides, if_pos rfl]
  by_cases h : way = 0
  · rw [if_pos h]; exact key 0 (by simp [h])
  · rw [if_neg h]; exact key 1 (by simp [h])
/-- a reading that writes the text again -/
def accB (x : RdH) (T : List UInt8) : Prop := errOf x.r x.w = 0 ∧ fmtB x.r x.w = T
theorem acc_read {x : RdH} {T : List UInt8} (h : accB x T) : rdH (wds 32 T) = ⟨true, rS x.r x.w, wS x.r x.w⟩ ∧ rdR (wds 32 T) = ⟨true, rS x.r x.w, wS x.r x.w⟩ := by
  obtain ⟨h1, rfl⟩ := h
  have ma : midL (toN (rS x.r x.w)) := toN_mid
  have mb : midL (toN (wS x.r x.w)) := toN_mid
  have ia : ints' (toN (rS x.r x.w)) = rS x.r x.w := ints_toN fun y hy => (side_bd y hy).1
  have ib : ints' (toN (wS x.r x.w)) = wS x.r x.w := ints_toN fun y hy => (side_bd y hy).1
  unfold fmtB
  rw [rd_fmtH (mid_big ma) (mid_big mb), rdR_fmtH ma mb, ia, ib]
  exact ⟨rfl, rfl⟩
theorem sides_sides {r w : List Int} (he : errOf r w = 0) : rS (rS r w) (wS r w) = rS r w ∧ wS (rS r w) (wS r w) = wS r w := by
  constructor
  · show sideF (op (rS r w) (wS r w)) 0 = _
    rw [op_sides he]; rfl
  · show sideF (op (rS r w) (wS r w)) 1 = _
    rw [op_sides he]; rfl
/-- both accept the same, and read the same -/
theorem acc_both {T : List UInt8} : (accB (rdH (wds 32 T)) T ↔ accB (rdR (wds 32 T)) T) ∧ (accB (rdH (wds 32 T)) T → rS (rdH (wds 32 T)).r (rdH (wds 32 T)).w = rS (rdR (wds 32 T)).r (rdR (wds 32 T)).w ∧ wS (rdH (wds 32 T)).r (rdH (wds 32 T)).w = wS (rdR (wds 32 T)).r (rdR (wds 32 T)).w) := by
  have key : ∀ x, accB x T → accB ⟨true, rS x.r x.w, wS x.r x.w⟩ T := by
    intro x h
    refine ⟨errOf_sides, ?_⟩
    have e := h.2
    obtain ⟨a, b⟩ := sides_sides h.1
    show fmtH (toN (rS (rS x.r x.w) (wS x.r x.w))) (toN (wS (rS x.r x.w) (wS x.r x.w))) = T
    rw [a, b]; exact e
  refine ⟨⟨fun h => ?_, fun h => ?_⟩, fun h => ?_⟩
  · rw [(acc_read h).2]; exact key _ h
  · rw [(acc_read h).1]; exact key _ h
  · rw [(acc_read h).2]
    exact ⟨(sides_sides h.1).1.symm, (sides_sides h.1).2.symm⟩
/-- a text that was written is read -/
theorem acc_fmt {r w : List Int} (he : errOf r w = 0) : accB (rdH (wds 32 (fmtB r w))) (fmtB r w) ∧ (rdH (wds 32 (fmtB r w))).r = rS r w ∧ (rdH (wds 32 (fmtB r w))).w = wS r w := by
  have h := acc_read (x := ⟨true, r, w⟩) (T := fmtB r w) ⟨he, rfl⟩
  rw [h.1]
  refine ⟨⟨errOf_sides, ?_⟩, rfl, rfl⟩
  obtain ⟨a, b⟩ := sides_sides he
  show fmtH (toN (rS (rS r w) (wS r w))) (toN (wS (rS r w) (wS r w))) = _
  rw [a, b]; rfl
theorem nums_len {c : UInt8} : ∀ {l : List Nat}, midL l → (nums c l).length ≤ 10 * l.length
  | [], _ => by simp [nums]
  | n :: l, h => by
    have h1 := nums_len (c := c) fun m hm => h m (List.mem_cons_of_mem n hm)
    have h2 := dd_len 8 n (by have := h n (by simp); simpa using this)
    rw [nums_cons, List.length_cons, List.length_append, List.length_cons]
    omega
theorem fmtB_len {r w : List Int} : (fmtB r w).length ≤ 500 := by
  have l : ∀ way, (toN (sideF (op r w) way)).length ≤ 24 := fun way => by simp only [toN, List.length_map, sideF, listN_length]; exact lastN_le _ _
  have a := nums_len (c := 32) (toN_mid (r := r) (w := w) (way := 0))
  have b := nums_len (c := 32) (toN_mid (r := r) (w := w) (way := 1))
  have l0 := l 0
  have l1 := l 1
  unfold fmtB fmtH rS wS
  simp only [List.length_append, List.length_cons, hairL, wrongL, List.length_nil]
  omega
end Go.Proofs.YtgjlhdggllakbaaDoor.Vm
