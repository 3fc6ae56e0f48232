/- Bytes turned round; the inverse of a word. -/
import Derived.Test.YtalejadhccgckaaDoorPkL
namespace Go.Proofs.YtalejadhccgckaaDoor.Vm
open Go
set_option maxRecDepth 100000
set_option linter.unusedSimpArgs false
set_option linter.unusedVariables false
attribute [-simp] List.getD_eq_getElem?_getD

def rowF (n : Nat) (g : Nat → Int) : List V := (List.range n).map fun j => .int .u8 (g j)
theorem rowF_len {n : Nat} {g : Nat → Int} : (rowF n g).length = n := by simp [rowF]
theorem rowF_get {n : Nat} {g : Nat → Int} {j : Nat} (h : j < n) : (rowF n g)[j]? = some (.int .u8 (g j)) := by simp [rowF, h]
def upf (g : Nat → Int) (j : Nat) (x : Int) : Nat → Int := fun k => if k = j then x else g k
theorem rowF_set {n : Nat} {g : Nat → Int} {j : Nat} {x : Int} (h : j < n) : splice (rowF n g) j [.int .u8 x] = rowF n (upf g j x) := by
  apply List.ext_getElem?
  intro k
  have hl : (rowF n g).length = n := rowF_len
  unfold splice
  by_cases h1 : k < j
  · rw [List.append_assoc, List.getElem?_append_left (by simp [hl]; omega), List.getElem?_take_of_lt h1, rowF_get (by omega), rowF_get (by omega)]
    simp [upf, show ¬ k = j by omega]
  · by_cases h2 : k = j
    · subst h2
      rw [List.append_assoc, List.getElem?_append_right (by simp [hl]; omega)]
      simp [hl, show min k n = k by omega, rowF_get h, upf]
    · by_cases h3 : k < n
      · rw [List.getElem?_append_right (by simp [hl]; omega), List.getElem?_drop, rowF_get h3]
        simp only [List.length_append, List.length_take, hl, List.length_cons, List.length_nil]
        rw [show j + (0 + 1) + (k - (min j n + (0 + 1))) = k by omega, rowF_get h3]
        simp [upf, h2]
      · rw [List.getElem?_eq_none (by simp [hl]; omega), List.getElem?_eq_none (by simp [rowF_len]; omega)]
theorem rowF_ext {n : Nat} {f g : Nat → Int} (h : ∀ j, j < n → f j = g j) : rowF n f = rowF n g := by
  unfold rowF
  exact List.map_congr_left fun j hj => by rw [h j (by simpa using hj)]
def rvF (n i : Nat) (f : Nat → Int) : Nat → Int := fun j => if j < i ∨ n - 1 - i < j then f (n - 1 - j) else f j
theorem reverse_t {H1 : Hp} {lim n : Nat} {f : Nat → Int} {K : V → Hp → Prop} (hlim : lim ≤ H1.length) (hn : n ≤ 60) (hK : K (.tup []) (H1 ++ [.row (rowF n fun j => f (n - 1 - j)) true])) : VCall tbl lim 79 [.sl H1.length 0 n 1] (H1 ++ [.row (rowF n f) true]) K := by
  refine VCall_fn tbl_at79 rfl ?_
  have hl : ∀ (g : Nat → Int) (j : Nat), j < n → vload none [] (H1 ++ [.row (rowF n g) true]) (.ptr H1.length j) = some (.int .u8 (g j)) := by
    intro g j hj
    simp only [vload, lastO, rd, rowF_len, hj, if_true]
    rw [List.getD_eq_getElem?_getD, rowF_get hj]; rfl
  have hs : ∀ (g : Nat → Int) (j : Nat) (x : Int), j < n → vstoreH lim (H1 ++ [.row (rowF n g) true]) H1.length j [.int .u8 x] = some (H1 ++ [.row (rowF n (upf g j x)) true]) := by
    intro g j x hj
    have e : j + 1 ≤ n := hj
    simp [vstoreH, hlim, rowF_len, e, rowF_set hj]
  have ha : ∀ j : Nat, j < n → viaddrS 1 (.sl H1.length 0 n 1) (.int .i64 (j : Int)) = some (.ptr H1.length j) := by
    intro j hj
    simp only [viaddrS, vint, if_true]
    rw [if_pos (by omega)]
    simp
  simp (disch := omega) [vf79, wrap_i64]
  refine wLoop_up n (fun i fr L H' => (fr 0 = .sl H1.length 0 n 1 ∧ fr 2 = .int .i64 i ∧ fr 3 = .int .i64 ((n : Int) - 1 - i)) ∧ L = [] ∧ H' = H1 ++ [.row (rowF n (rvF n i f)) true] ∧ 2 * i ≤ n + 1) ⟨by simp, rfl, ?_, by omega⟩ ?_
  · show H1 ++ [.row (rowF n f) true] = _
    rw [rowF_ext (f := rvF n 0 f) (g := f) fun j hj => by simp only [rvF]; rw [if_neg (by omega)]]
  rintro i hi fr L H' ⟨⟨f0, f2, f3⟩, rfl, rfl, hle⟩
  by_cases hp : 2 * i + 1 < n
  · obtain ⟨k, hk⟩ : ∃ k : Nat, k = n - 1 - i := ⟨_, rfl⟩
    have f3' : fr 3 = .int .i64 (k : Int) := by rw [f3]; congr 1; omega
    have hp' : ((i : Int) < (k : Int)) = True := eq_true (by omega)
    have e1 : rowF n (upf (upf (rvF n i f) i (rvF n i f k)) k (rvF n i f i)) = rowF n (rvF n (i + 1) f) := by
      refine rowF_ext fun j hj => ?_
      simp only [upf, rvF]
      repeat' split
      all_goals first | rfl | omega | (congr 1; omega)
    simp (disch := omega) [f0, f2, f3', hp', ha, hl, hs, wrap_i64]
    rw [e1]
    and_intros <;> first | omega | rfl
  · have hp' : ((i : Int) < (n : Int) - 1 - i) = False := eq_false (by omega)
    simp [f0, f2, f3, hp']
    have e : rowF n (rvF n i f) = rowF n fun j => f (n - 1 - j) := by
      refine rowF_ext fun j hj => ?_
      simp only [rvF]
      split
      · rfl
      · congr 1; omega
    rw [e]; exact hK

theorem vbytes_row {m : ByteArray} : vbytesL m = rowF m.size fun j => (chT m j : Int) := by
  apply List.ext_getElem?
  intro k
  by_cases h : k < m.size
  · have h' : k < m.data.size := h
    rw [rowF_get h]
    simp [vbytesL, chT, Array.getElem?_eq_getElem h', Array.getD_eq_getD_getElem?]
  · rw [List.getElem?_eq_none (by simp [vbytesL]; omega), List.getElem?_eq_none (by rw [rowF_len]; omega)]
theorem bytesOf_row {n : Nat} {g : Nat → Nat} (hg : ∀ j, j < n → g j < 256) : bytesOf (rowF n fun j => (g j : Int)) = some ((List.range n).map fun j => UInt8.ofNat (g j)) := by
  have key : ∀ l : List Nat, bytesOf (l.map fun j => V.int .u8 (g j : Int)) = some (l.map fun j => UInt8.ofNat (g j)) := by
    intro l
    induction l with
    | nil => rfl
    | cons a l ih => simp only [List.map_cons, bytesOf, byteOf, ih, Int.toNat_natCast]
  exact key _
theorem text_row {n : Nat} {g : Nat → Nat} {s : ByteArray} (hs : s.size = n) (hg : ∀ j, j < n → g j = chT s j) : (⟨((List.range n).map fun j => UInt8.ofNat (g j)).toArray⟩ : ByteArray) = s := by
  refine ba_ext ?_ fun k hk => ?_
  · rw [hs]; show (((List.range n).map _).toArray).size = n; simp
  · have hk' : k < n := by
      have : (⟨((List.range n).map fun j => UInt8.ofNat (g j)).toArray⟩ : ByteArray).size = n := by show (((List.range n).map _).toArray).size = n; simp
      omega
    have hlt := chT_lt (s := s) (i := k)
    have e := hg k hk'
    simp [chT, Array.getD_eq_getD_getElem?, hk']
    simp only [chT, Array.getD_eq_getD_getElem?] at e hlt
    omega
theorem inverse_t {H : Hp} {lim : Nat} {s : ByteArray} {K : V → Hp → Prop} (hc : chkU8 H = true) (hlim : lim ≤ H.length) (hv : vld s = true) (hK : ∀ X, K (.str (rvB (mp oppF s))) (H ++ X)) : VCall tbl lim 61 [.str s] H K := by
  refine VCall_fn tbl_at61 rfl ?_
  have hb := vld_len hv
  simp [vf61]
  refine mirror_t hc hv ?_
  have hm := mp_size (F := oppF) (s := s)
  generalize mp oppF s = m at hK hm
  simp [vbytes_row]
  refine reverse_t hlim (by omega) ?_
  have e : vstrB (H ++ [.row (rowF m.size fun j => (chT m (m.size - 1 - j) : Int)) true]) (.sl H.length 0 m.size 1) = some (.str (rvB m)) := by
    simp only [vstrB, vcells, if_true, lastO, rowF_len, Nat.zero_add, Nat.mul_one, Nat.le_refl, List.drop_zero]
    rw [List.take_of_length_le (by rw [rowF_len]; omega), bytesOf_row (g := fun j => chT m (m.size - 1 - j)) fun j _ => chT_lt]
    simp only
    rw [text_row rvB_size fun j hj => (chT_rvB hj).symm]
  simp [e]
  exact hK _
end Go.Proofs.YtalejadhccgckaaDoor.Vm
