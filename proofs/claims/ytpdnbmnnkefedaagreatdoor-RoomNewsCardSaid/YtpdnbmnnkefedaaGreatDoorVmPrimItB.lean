/- strconv.Itoa alone, over its own table: the ground of its contract (ItA, with what it reads of the laid table alone). -/
import Derived.Test.YtpdnbmnnkefedaaGreatDoorVmTab0
import Derived.Test.YtpdnbmnnkefedaaGreatDoorVmRec
import Derived.Lib.SplitLaws
import Derived.Lib.AtoiTie
import Derived.Lib.AtoiAllCases
import Derived.Lib.ItoaMem
import Derived.Lib.IndexBytes
import Derived.Lib.IndexMore
import Derived.KernelRfl
namespace Go.Proofs.YtpdnbmnnkefedaaGreatDoor.Vm.T0
open Go
set_option maxRecDepth 100000
set_option linter.unusedSimpArgs false
attribute [-simp] List.getD_eq_getElem?_getD
def Small (xs : List Int) : Prop := ∀ x ∈ xs, -1099511627776 ≤ x ∧ x ≤ 1099511627776
theorem Small.at {xs : List Int} (h : Small xs) (i : Nat) : -1099511627776 ≤ xs.getD i 0 ∧ xs.getD i 0 ≤ 1099511627776 := by
  by_cases hi : i < xs.length
  · rw [List.getD_eq_getElem?_getD, List.getElem?_eq_getElem hi]; exact h _ (List.getElem_mem hi)
  · rw [List.getD_eq_getElem?_getD, List.getElem?_eq_none (by omega)]; simp
theorem SlV.at {H : Hp} {v : V} {l : List Int} (h : SlV H v l) {i : Nat} (hi : i < l.length) : ∃ b o, viaddrS 1 v (.int .i64 i) = some (.ptr b o) ∧ ∀ L, vload none L H (.ptr b o) = some (.int .i64 (l.getD i 0)) := by
  cases h with
  | nil => simp at hi
  | empty => simp at hi
  | sl h1 h2 h3 =>
    rename_i b off cs own
    refine ⟨b, off + i, ?_, fun L => ?_⟩
    · rw [viaddrS_in (by omega)]; simp
    · rw [vload_ptr h1]
      have hlt : off + i < cs.length := by omega
      simp only [rd, hlt, if_true]
      have e : (cs.drop off)[i]? = (ints l)[i]? := by
        rw [← h3, List.getElem?_take_of_lt hi]
      rw [List.getElem?_drop, ints_get?, List.getElem?_eq_getElem hi] at e
      simp [List.getD_eq_getElem?_getD, e, hi]
inductive BunV (H : Hp) (r w : List Int) : V → Prop
  | mk {rv wv : V} : SlV H rv r → SlV H wv w → BunV H r w (.agg [rv, wv])
/-- the reference's array against the sheaf -/
structure RefOf (xs ys : List Int) : Prop where
  len : ys.length = 50
  right : ∀ i, i < 24 → ys.getD (i + 1) 0 = xs.getD i 0
  wrong : ∀ i, i < 24 → ys.getD (26 + i) 0 = xs.getD (24 + i) 0
  zero : ys.getD 0 0 = 0 ∧ ys.getD 25 0 = 0
/-- one length's two numbers in the reference's array -/
theorem RefOf.at {xs ys : List Int} (h : RefOf xs ys) {m : Nat} (h1 : 1 ≤ m) (h2 : m ≤ 24) : ys.getD m 0 = xs.getD (m - 1) 0 ∧ ys.getD (25 + m) 0 = xs.getD (24 + (m - 1)) 0 := by
  obtain ⟨i, rfl⟩ : ∃ i, m = i + 1 := ⟨m - 1, by omega⟩
  refine ⟨h.right i (by omega), ?_⟩
  rw [show 25 + (i + 1) = 26 + i by omega]
  exact h.wrong i (by omega)
/-! the law's own pieces -/
set_option linter.unusedVariables false
/-- a bundle that the call made -/
inductive OwnB (n : Nat) (H : Hp) (r w : List Int) : V → Prop
  | mk {rv wv : V} : OwnV n H rv r → OwnV n H wv w → OwnB n H r w (.agg [rv, wv])
theorem OwnB.zero {n : Nat} {H : Hp} : OwnB n H [] [] (.agg [.snil, .snil]) := .mk .nil .nil
/-! hairs as a function of the way of lying (0, 1) and the length (1 to 24) -/
/-! bundles with an error -/
/-! errors of pairs, outcomes -/
section
variable {lim : Nat} {H : Hp} {av bv : V} {r w r' w' : List Int} {K : V → Hp → Prop}
theorem BunV.right {rv : V} {r : List Int} (h : SlV H rv r) : BunV H r [] (.agg [rv, .snil]) := .mk h .nil
/-! drawing, hackling -/
end
/-! writing into one's own lists -/
/-! numerals -/
theorem dd_big {u : Nat} (h : ¬ u < 10) : Lib.decDigits u = Lib.decDigits (u / 10) ++ [UInt8.ofNat (48 + u % 10)] := by
  rw [Lib.decDigits, dif_neg h]
/-! the text of a bundle -/
/-! the text of a bundle -/
/-- bytes as a text -/
def bA (l : List UInt8) : ByteArray := ⟨l.toArray⟩
theorem ext_bA {s : ByteArray} {a b : Nat} : s.extract a b = bA ((s.data.toList.take b).drop a) := by
  obtain ⟨⟨l⟩⟩ := s
  have h : ((⟨⟨l⟩⟩ : ByteArray).extract a b).data = (bA ((l.take b).drop a)).data := by
    simp [bA, ByteArray.data_extract]
    rw [List.drop_take]
  generalize (⟨⟨l⟩⟩ : ByteArray).extract a b = x at h
  generalize bA ((l.take b).drop a) = y at h
  cases x; cases y; simp at h; subst h; rfl
theorem slT_bA {s : ByteArray} {a b : Nat} (h1 : a ≤ b) (h2 : b ≤ s.size) : vslT (.str s) (some (.int .i64 (a : Int))) (some (.int .i64 (b : Int))) = some (.str (bA ((s.data.toList.take b).drop a))) := by
  simp only [vslT, vbounds, vint]
  rw [if_pos (by omega), if_pos (by omega)]
  simp only [Int.toNat_natCast, ext_bA]
/-! two lists of one's own, apart -/
def len8 : ByteArray := ⟨#[0, 1, 2, 2, 3, 3, 3, 3, 4, 4, 4, 4, 4, 4, 4, 4, 5, 5, 5, 5, 5, 5, 5, 5, 5, 5, 5, 5, 5, 5, 5, 5, 6, 6, 6, 6, 6, 6, 6, 6, 6, 6, 6, 6, 6, 6, 6, 6, 6, 6, 6, 6, 6, 6, 6, 6, 6, 6, 6, 6, 6, 6, 6, 6, 7, 7, 7, 7, 7, 7, 7, 7, 7, 7, 7, 7, 7, 7, 7, 7, 7, 7, 7, 7, 7, 7, 7, 7, 7, 7, 7, 7, 7, 7, 7, 7, 7, 7, 7, 7, 7, 7, 7, 7, 7, 7, 7, 7, 7, 7, 7, 7, 7, 7, 7, 7, 7, 7, 7, 7, 7, 7, 7, 7, 7, 7, 7, 7, 8, 8, 8, 8, 8, 8, 8, 8, 8, 8, 8, 8, 8, 8, 8, 8, 8, 8, 8, 8, 8, 8, 8, 8, 8, 8, 8, 8, 8, 8, 8, 8, 8, 8, 8, 8, 8, 8, 8, 8, 8, 8, 8, 8, 8, 8, 8, 8, 8, 8, 8, 8, 8, 8, 8, 8, 8, 8, 8, 8, 8, 8, 8, 8, 8, 8, 8, 8, 8, 8, 8, 8, 8, 8, 8, 8, 8, 8, 8, 8, 8, 8, 8, 8, 8, 8, 8, 8, 8, 8, 8, 8, 8, 8, 8, 8, 8, 8, 8, 8, 8, 8, 8, 8, 8, 8, 8, 8, 8, 8, 8, 8, 8, 8, 8, 8, 8, 8, 8, 8, 8, 8, 8, 8, 8, 8, 8, 8]⟩
def bl8 (t : Nat) : Nat := if t < 1 then 0 else if t < 2 then 1 else if t < 4 then 2 else if t < 8 then 3 else if t < 16 then 4 else if t < 32 then 5 else if t < 64 then 6 else if t < 128 then 7 else 8
theorem len8_all : ∀ t, t < 256 → len8.data.toList.getD t 0 = UInt8.ofNat (bl8 t) := by decide +kernel
theorem len8_at {t : Nat} (h : t < 256) : vidxT (.str len8) (.int .u8 (t : Int)) = some (.int .u8 (bl8 t : Nat)) := by
  have hz : len8.size = 256 := by decide +kernel
  simp only [vidxT, vint]
  rw [if_pos (by omega)]
  have e := len8_all t h
  have hb : bl8 t < 256 := by unfold bl8; (repeat' split) <;> omega
  have : len8.data.getD ((t : Int)).toNat 0 = UInt8.ofNat (bl8 t) := by
    rw [Int.toNat_natCast, ← e, Array.getD_eq_getD_getElem?, List.getD_eq_getElem?_getD, Array.getElem?_toList]
  rw [this]
  congr 2
  simp; omega
def blen (n : Nat) : Nat := if n < 256 then bl8 n else if n < 65536 then 8 + bl8 (n / 256) else 16 + bl8 (n / 65536)
theorem bl8_le (t : Nat) : bl8 t ≤ 8 := by unfold bl8; (repeat' split) <;> omega
theorem fdN {n m : Nat} : Int.fdiv (n : Int) (m : Int) = ((n / m : Nat) : Int) := by
  rw [Int.fdiv_eq_ediv_of_nonneg _ (by omega)]; rfl
theorem shr_8 {n : Nat} : vbin .shr (.int .u64 (n : Int)) (.int .u64 8) = some (.int .u64 ((n / 256 : Nat) : Int)) := by
  show some (V.int .u64 (Int.fdiv (n : Int) ((256 : Nat) : Int))) = _
  rw [fdN]
theorem shr_16 {n : Nat} : vbin .shr (.int .u64 (n : Int)) (.int .u64 16) = some (.int .u64 ((n / 65536 : Nat) : Int)) := by
  show some (V.int .u64 (Int.fdiv (n : Int) ((65536 : Nat) : Int))) = _
  rw [fdN]
theorem len64_t {H : Hp} {lim n : Nat} {K : V → Hp → Prop} (hn : n ≤ 1000000) (hK : K (.int .i64 (blen n : Nat)) H) : VCall tbl lim 232 [.int .u64 (n : Int)] H K := by
  refine VCall_fn tbl_at232 rfl ?_
  have c1 : ((4294967296 : Int) ≤ (n : Int)) = False := eq_false (by omega)
  have k8 : vbin .shr (.int .u64 (n : Int)) (.int .u64 8) = some (.int .u64 ((n / 256 : Nat) : Int)) := shr_8
  have k16 : vbin .shr (.int .u64 (n : Int)) (.int .u64 16) = some (.int .u64 ((n / 65536 : Nat) : Int)) := shr_16
  unfold blen at hK
  by_cases h1 : n < 256
  · have c2 : ((65536 : Int) ≤ (n : Int)) = False := eq_false (by omega)
    have c3 : ((256 : Int) ≤ (n : Int)) = False := eq_false (by omega)
    have w1 : IntKind.wrap .u8 (n : Int) = (n : Int) := by simp [IntKind.wrap, IntKind.bits, IntKind.signed]; omega
    have ht := len8_at h1
    simp only [len8] at ht
    rw [if_pos h1] at hK
    have hb := bl8_le n
    simp (disch := omega) [vf232, c1, c2, c3, w1, ht, wrap_i64]
    exact hK
  rw [if_neg h1] at hK
  by_cases h2 : n < 65536
  · have c2 : ((65536 : Int) ≤ (n : Int)) = False := eq_false (by omega)
    have c3 : ((256 : Int) ≤ (n : Int)) = True := eq_true (by omega)
    rw [if_pos h2] at hK
    obtain ⟨m, hm⟩ : ∃ m, m = n / 256 := ⟨_, rfl⟩
    rw [← hm] at k8 hK
    have w1 : IntKind.wrap .u8 (m : Int) = (m : Int) := by simp [IntKind.wrap, IntKind.bits, IntKind.signed]; omega
    have ht := len8_at (t := m) (by omega)
    simp only [len8] at ht
    have hb := bl8_le m
    simp (disch := omega) [vf232, c1, c2, c3, w1, ht, k8, wrap_i64]
    have e : ((8 + bl8 m : Nat) : Int) = 8 + (bl8 m : Int) := by omega
    rw [e] at hK
    exact hK
  · have c2 : ((65536 : Int) ≤ (n : Int)) = True := eq_true (by omega)
    rw [if_neg h2] at hK
    obtain ⟨m, hm⟩ : ∃ m, m = n / 65536 := ⟨_, rfl⟩
    rw [← hm] at k16 hK
    have c3 : ((256 : Int) ≤ (m : Int)) = False := eq_false (by omega)
    have w1 : IntKind.wrap .u8 (m : Int) = (m : Int) := by simp [IntKind.wrap, IntKind.bits, IntKind.signed]; omega
    have ht := len8_at (t := m) (by omega)
    simp only [len8] at ht
    have hb := bl8_le m
    simp (disch := omega) [vf232, c1, c2, c3, w1, ht, k16, wrap_i64]
    have e : ((16 + bl8 m : Nat) : Int) = 16 + (bl8 m : Int) := by omega
    rw [e] at hK
    exact hK
def lit36 : ByteArray := ⟨#[48, 49, 50, 51, 52, 53, 54, 55, 56, 57, 97, 98, 99, 100, 101, 102, 103, 104, 105, 106, 107, 108, 109, 110, 111, 112, 113, 114, 115, 116, 117, 118, 119, 120, 121, 122]⟩
def smL : ByteArray := ⟨#[48, 48, 48, 49, 48, 50, 48, 51, 48, 52, 48, 53, 48, 54, 48, 55, 48, 56, 48, 57, 49, 48, 49, 49, 49, 50, 49, 51, 49, 52, 49, 53, 49, 54, 49, 55, 49, 56, 49, 57, 50, 48, 50, 49, 50, 50, 50, 51, 50, 52, 50, 53, 50, 54, 50, 55, 50, 56, 50, 57, 51, 48, 51, 49, 51, 50, 51, 51, 51, 52, 51, 53, 51, 54, 51, 55, 51, 56, 51, 57, 52, 48, 52, 49, 52, 50, 52, 51, 52, 52, 52, 53, 52, 54, 52, 55, 52, 56, 52, 57, 53, 48, 53, 49, 53, 50, 53, 51, 53, 52, 53, 53, 53, 54, 53, 55, 53, 56, 53, 57, 54, 48, 54, 49, 54, 50, 54, 51, 54, 52, 54, 53, 54, 54, 54, 55, 54, 56, 54, 57, 55, 48, 55, 49, 55, 50, 55, 51, 55, 52, 55, 53, 55, 54, 55, 55, 55, 56, 55, 57, 56, 48, 56, 49, 56, 50, 56, 51, 56, 52, 56, 53, 56, 54, 56, 55, 56, 56, 56, 57, 57, 48, 57, 49, 57, 50, 57, 51, 57, 52, 57, 53, 57, 54, 57, 55, 57, 56, 57, 57]⟩
theorem lit36_at {n : Nat} (h : n < 10) : vslT (.str lit36) (some (.int .i64 (n : Int))) (some (.int .i64 ((n : Int) + 1))) = some (.str (bA (Lib.decDigits n))) := by
  rw [Lib.decDigits_one h]
  match n, h with
  | 0, _ => rfl
  | 1, _ => rfl
  | 2, _ => rfl
  | 3, _ => rfl
  | 4, _ => rfl
  | 5, _ => rfl
  | 6, _ => rfl
  | 7, _ => rfl
  | 8, _ => rfl
  | 9, _ => rfl
theorem smL_all : ∀ n, n < 100 → (smL.data.toList.take (2 * n + 2)).drop (2 * n) = [UInt8.ofNat (48 + n / 10), UInt8.ofNat (48 + n % 10)] := by decide +kernel
theorem smL_at {n : Nat} (h1 : ¬ n < 10) (h2 : n < 100) {a b : Int} (ha : a = 2 * n) (hb : b = 2 * n + 2) : vslT (.str smL) (some (.int .i64 a)) (some (.int .i64 b)) = some (.str (bA (Lib.decDigits n))) := by
  have e1 : a = ((2 * n : Nat) : Int) := by omega
  have e2 : b = ((2 * n + 2 : Nat) : Int) := by omega
  have hz : smL.size = 200 := by decide +kernel
  rw [e1, e2, slT_bA (by omega) (by omega), smL_all n h2, Lib.decDigits_two h1 h2]
theorem small_t {H : Hp} {lim n : Nat} {K : V → Hp → Prop} (h2 : n < 100) (hK : K (.str (bA (Lib.decDigits n))) H) : VCall tbl lim 214 [.int .i64 (n : Int)] H K := by
  refine VCall_fn tbl_at214 rfl ?_
  by_cases h1 : n < 10
  · have h1' : ((n : Int) < 10) = True := eq_true (by omega)
    have := lit36_at h1
    simp only [lit36] at this
    simp (disch := omega) [vf214, h1', this, wrap_i64]
    exact hK
  · have h1' : ((n : Int) < 10) = False := eq_false (by omega)
    have := smL_at h1 h2 (a := (n : Int) * 2) (b := (n : Int) * 2 + 2) (by omega) (by omega)
    simp only [smL] at this
    simp (disch := omega) [vf214, h1', this, wrap_i64]
    exact hK
theorem shr_18 {n : Nat} : vbin .shr (.int .i64 (n : Int)) (.int .u64 18) = some (.int .i64 ((n / 262144 : Nat) : Int)) := by
  show some (V.int .i64 (Int.fdiv (n : Int) ((262144 : Nat) : Int))) = _
  rw [fdN]
/-- how many digits -/
def nD (n : Nat) : Nat := if n < 1000 then 3 else if n < 10000 then 4 else if n < 100000 then 5 else if n < 1000000 then 6 else 7
def lq (n : Nat) : Nat := if n < 512 then 2 else if n < 8192 then 3 else if n < 65536 then 4 else if n < 524288 then 5 else 6
theorem bl_lq {n : Nat} (h1 : 100 ≤ n) (h2 : n ≤ 1000000) : blen n * 78913 / 262144 = lq n ∧ blen n ≤ 20 := by
  unfold blen lq bl8
  repeat' split
  all_goals omega
theorem log10_t {H : Hp} {lim n : Nat} {K : V → Hp → Prop} (h1 : 100 ≤ n) (h2 : n ≤ 1000000) (hK : K (.int .i64 (lq n : Nat)) H) : VCall tbl lim 231 [.int .i64 (blen n : Nat)] H K := by
  refine VCall_fn tbl_at231 rfl ?_
  obtain ⟨a, b⟩ := bl_lq h1 h2
  have hs := shr_18 (n := blen n * 78913)
  rw [a] at hs
  have e : ((blen n * 78913 : Nat) : Int) = (blen n : Int) * 78913 := by omega
  rw [e] at hs
  simp (disch := omega) [vf231, wrap_i64, hs]
  exact hK
theorem bool2_t {H : Hp} {lim : Nat} {b : Bool} {K : V → Hp → Prop} (hK : K (.int .i64 (if b then 1 else 0)) H) : VCall tbl lim 233 [.bool b] H K := by
  refine VCall_fn tbl_at233 rfl ?_
  cases b <;> simp [vf233] at hK ⊢ <;> exact hK
/-- the laid table of powers stands in the first row -/
def P7 : List V := [.int .u64 1, .int .u64 10, .int .u64 100, .int .u64 1000, .int .u64 10000, .int .u64 100000, .int .u64 1000000]
def TabP (H : Hp) : Prop := ∃ R own X, H = .row (P7 ++ R) own :: X
theorem TabP.app {H Y : Hp} (h : TabP H) : TabP (H ++ Y) := by
  obtain ⟨R, own, X, rfl⟩ := h
  exact ⟨R, own, X ++ Y, rfl⟩
theorem numDigits_t {H : Hp} {lim n : Nat} {K : V → Hp → Prop} (hg : TabP H) (h1 : 100 ≤ n) (h2 : n ≤ 1000000) (hK : K (.int .i64 (nD n : Nat)) H) : VCall tbl lim 215 [.int .u64 (n : Int)] H K := by
  refine VCall_fn tbl_at215 rfl ?_
  simp [vf215]
  refine len64_t h2 ?_
  simp
  refine log10_t h1 h2 ?_
  simp
  obtain ⟨R, own, X, rfl⟩ := hg
  have d2 : ∀ {L : Lo}, vload none L (Blk.row (P7 ++ R) own :: X) (.ptr 0 2) = some (.int .u64 100) := fun {L} => rfl
  have d3 : ∀ {L : Lo}, vload none L (Blk.row (P7 ++ R) own :: X) (.ptr 0 3) = some (.int .u64 1000) := fun {L} => rfl
  have d4 : ∀ {L : Lo}, vload none L (Blk.row (P7 ++ R) own :: X) (.ptr 0 4) = some (.int .u64 10000) := fun {L} => rfl
  have d5 : ∀ {L : Lo}, vload none L (Blk.row (P7 ++ R) own :: X) (.ptr 0 5) = some (.int .u64 100000) := fun {L} => rfl
  have d6 : ∀ {L : Lo}, vload none L (Blk.row (P7 ++ R) own :: X) (.ptr 0 6) = some (.int .u64 1000000) := fun {L} => rfl
  have a2 : viaddrA 20 1 (.ptr 0 0) (.int .i64 2) = some (.ptr 0 2) := rfl
  have a3 : viaddrA 20 1 (.ptr 0 0) (.int .i64 3) = some (.ptr 0 3) := rfl
  have a4 : viaddrA 20 1 (.ptr 0 0) (.int .i64 4) = some (.ptr 0 4) := rfl
  have a5 : viaddrA 20 1 (.ptr 0 0) (.int .i64 5) = some (.ptr 0 5) := rfl
  have a6 : viaddrA 20 1 (.ptr 0 0) (.int .i64 6) = some (.ptr 0 6) := rfl
  generalize Blk.row (P7 ++ R) own :: X = H at *
  have fin : ∀ (q p : Nat), (q : Int) = (lq n : Nat) → viaddrA 20 1 (.ptr 0 0) (.int .i64 (q : Int)) = some (.ptr 0 q) → (∀ {L : Lo}, vload none L H (.ptr 0 q) = some (.int .u64 (p : Int))) → q ≤ 6 → (nD n = if p ≤ n then q + 1 else q) → wNext tbl lim [] H (pureV [] H (viaddrA 20 1 (V.ptr 0 0) (V.int IntKind.i64 ((lq n : Nat) : Int)))) (opsK tbl lim (some 10)
      [oL 11 10, oP 12 (VOp.bin BinOp.geq (Opd.t 8) (Opd.t 11)), oP 13 (VOp.call 233 [Opd.t 12]),
        oP 14 (VOp.bin BinOp.add (Opd.t 7) (Opd.t 13)), oM 2 14]
      (seqQ (wCode tbl lim VCode.ret (fnQ [VRes.tmp 2] K)) (fnQ [VRes.tmp 2] K) VExit.normal)
      (upd
        (upd
          (upd
            (upd
              (upd
                (upd (upd (upd (fr0 [V.int IntKind.u64 ↑n]) 2 (V.int IntKind.i64 0)) 4 (V.int IntKind.u64 ↑n)) 5
                  (V.int IntKind.i64 ↑(blen n)))
                6 (V.int IntKind.i64 ↑(lq n)))
              3 (V.int IntKind.i64 ↑(lq n)))
            7 (V.int IntKind.i64 ↑(lq n)))
          8 (V.int IntKind.u64 ↑n))
        9 (V.int IntKind.i64 ↑(lq n)))) := by
    intro q p hq ha hd hq6 hnd
    rw [← hq]
    by_cases hp : p ≤ n
    · have hp' : ((p : Int) ≤ (n : Int)) = True := eq_true (by omega)
      simp [ha, hd, hp']
      refine bool2_t ?_
      rw [if_pos hp] at hnd
      simp (disch := omega) [wrap_i64]
      rw [hnd] at hK
      have e : ((q + 1 : Nat) : Int) = (q : Int) + 1 := by omega
      rw [e] at hK
      exact hK
    · have hp' : ((p : Int) ≤ (n : Int)) = False := eq_false (by omega)
      simp [ha, hd, hp']
      refine bool2_t ?_
      rw [if_neg hp] at hnd
      simp (disch := omega) [wrap_i64]
      rw [hnd] at hK
      exact hK
  by_cases k1 : n < 512
  · exact fin 2 100 (by simp [lq, k1]) a2 d2 (by omega) (by unfold nD; rw [if_pos (by omega), if_pos h1])
  by_cases k2 : n < 8192
  · exact fin 3 1000 (by simp [lq, k1, k2]) a3 d3 (by omega) (by unfold nD; (repeat' split) <;> omega)
  by_cases k3 : n < 65536
  · exact fin 4 10000 (by simp [lq, k1, k2, k3]) a4 d4 (by omega) (by unfold nD; (repeat' split) <;> omega)
  by_cases k4 : n < 524288
  · exact fin 5 100000 (by simp [lq, k1, k2, k3, k4]) a5 d5 (by omega) (by unfold nD; (repeat' split) <;> omega)
  · exact fin 6 1000000 (by simp [lq, k1, k2, k3, k4]) a6 d6 (by omega) (by unfold nD; (repeat' split) <;> omega)
theorem sm_lo : ∀ k, k < 100 → smL.data.toList.getD (2 * k) 0 = UInt8.ofNat (48 + k / 10) := by decide +kernel
theorem sm_hi : ∀ k, k < 100 → smL.data.toList.getD (2 * k + 1) 0 = UInt8.ofNat (48 + k % 10) := by decide +kernel
theorem sm_ix {j d : Nat} (hj : j < 200) (hd : d < 10) (h : smL.data.toList.getD j 0 = UInt8.ofNat (48 + d)) : vidxT (.str smL) (.int .u32 (j : Int)) = some (.int .u8 ((48 + d : Nat) : Int)) := by
  have hz : smL.size = 200 := by decide +kernel
  simp only [vidxT, vint]
  rw [if_pos (by omega)]
  have : smL.data.getD ((j : Int)).toNat 0 = UInt8.ofNat (48 + d) := by
    rw [Int.toNat_natCast, ← h, Array.getD_eq_getD_getElem?, List.getD_eq_getElem?_getD, Array.getElem?_toList]
  rw [this]
  congr 2
  simp; omega
theorem st_row {H : Hp} {lim off : Nat} {cs : List V} {v : V} (hl : lim ≤ H.length) (h : off + 1 ≤ cs.length) : vstoreH lim (H ++ [.row cs true]) H.length off [v] = some (H ++ [.row (splice cs off [v]) true]) := by
  simp only [vstoreH, hl, if_true, List.getElem?_concat_length, List.length_cons, List.length_nil, Nat.zero_add, h]
  congr 1
  rw [List.set_append_right _ _ (Nat.le_refl _), Nat.sub_self]; rfl
theorem base3_t {H : Hp} {lim n : Nat} {K : V → Hp → Prop} (hlim : lim ≤ H.length) (h1 : 100 ≤ n) (h2 : n < 1000)
    (hK : K (.tup []) (H ++ [.row (splice (List.replicate 24 (.int .u8 0)) 1 [.int .u8 ((48 + n / 100 : Nat) : Int), .int .u8 ((48 + n / 10 % 10 : Nat) : Int), .int .u8 ((48 + n % 10 : Nat) : Int)]) true])) : VCall tbl lim 216 [.sl H.length 1 3 1, .int .u64 (n : Int)] (H ++ [.row (List.replicate 24 (.int .u8 0)) true]) K := by
  refine VCall_fn tbl_at216 rfl ?_
  obtain ⟨a, ha⟩ : ∃ a : Nat, a = n % 100 := ⟨_, rfl⟩
  obtain ⟨c, hc⟩ : ∃ c : Nat, c = n / 100 := ⟨_, rfl⟩
  obtain ⟨j, hj⟩ : ∃ j : Nat, j = 2 * a := ⟨_, rfl⟩
  have r1 : Int.tmod (n : Int) 100 = (a : Int) := by rw [Int.tmod_eq_emod_of_nonneg (by omega)]; omega
  have q1 : Int.tdiv (n : Int) 100 = (c : Int) := by rw [Int.tdiv_eq_ediv_of_nonneg (by omega)]; omega
  have w0 : IntKind.wrap .u32 (n : Int) = (n : Int) := by simp [IntKind.wrap, IntKind.bits, IntKind.signed]; omega
  have w1 : IntKind.wrap .u32 ((a : Int) * 2) = (j : Int) := by simp [IntKind.wrap, IntKind.bits, IntKind.signed]; omega
  have w2 : IntKind.wrap .u32 ((j : Int) + 1) = (j : Int) + 1 := by simp [IntKind.wrap, IntKind.bits, IntKind.signed]; omega
  have w3 : IntKind.wrap .u32 (c : Int) = (c : Int) := by simp [IntKind.wrap, IntKind.bits, IntKind.signed]; omega
  have w4 : IntKind.wrap .u32 (48 + (c : Int)) = 48 + (c : Int) := by simp [IntKind.wrap, IntKind.bits, IntKind.signed]; omega
  have w5 : IntKind.wrap .u8 (48 + (c : Int)) = 48 + (c : Int) := by simp [IntKind.wrap, IntKind.bits, IntKind.signed]; omega
  have x1 := sm_ix (j := 2 * a + 1) (d := a % 10) (by omega) (by omega) (sm_hi a (by omega))
  have x0 := sm_ix (j := 2 * a) (d := a / 10) (by omega) (by omega) (sm_lo a (by omega))
  rw [← hj] at x0 x1
  have ej : ((j + 1 : Nat) : Int) = (j : Int) + 1 := by omega
  rw [ej] at x1
  have e1 : 48 + n / 100 = 48 + c := by omega
  have e2 : 48 + n / 10 % 10 = 48 + a / 10 := by omega
  have e3 : 48 + n % 10 = 48 + a % 10 := by omega
  rw [e1, e2, e3] at hK
  obtain ⟨d0, hd0⟩ : ∃ d, d = 48 + a / 10 := ⟨_, rfl⟩
  obtain ⟨d1, hd1⟩ : ∃ d, d = 48 + a % 10 := ⟨_, rfl⟩
  rw [← hd0] at x0 hK
  rw [← hd1] at x1 hK
  simp only [smL] at x0 x1
  simp [vf216]
  refine wLoop_round ?_
  have y2 : viaddrS 1 (.sl H.length 1 3 1) (.int .i64 2) = some (.ptr H.length 3) := by simp [viaddrS, vint]
  have y1 : viaddrS 1 (.sl H.length 1 3 1) (.int .i64 1) = some (.ptr H.length 2) := by simp [viaddrS, vint]
  have y0 : viaddrS 1 (.sl H.length 1 3 1) (.int .i64 0) = some (.ptr H.length 1) := by simp [viaddrS, vint]
  simp (disch := first | omega | (simp; done)) [w0, r1, q1, w1, w2, w3, w4, w5, x0, x1, y0, y1, y2, wrap_i64, st_row, splice]
  have ec : ((48 + c : Nat) : Int) = 48 + (c : Int) := by omega
  rw [ec] at hK
  simp [splice] at hK
  exact hK
theorem u32_wrap {x : Nat} (h : x < 4294967296) : IntKind.wrap .u32 (x : Int) = (x : Int) := by simp [IntKind.wrap, IntKind.bits, IntKind.signed]; omega
theorem base4_t {H : Hp} {lim n : Nat} {K : V → Hp → Prop} (hlim : lim ≤ H.length) (h1 : 1000 ≤ n) (h2 : n < 10000)
    (hK : K (.tup []) (H ++ [.row (splice (List.replicate 24 (.int .u8 0)) 1 [.int .u8 ((48 + n / 1000 : Nat) : Int), .int .u8 ((48 + n / 100 % 10 : Nat) : Int), .int .u8 ((48 + n / 10 % 10 : Nat) : Int), .int .u8 ((48 + n % 10 : Nat) : Int)]) true])) : VCall tbl lim 216 [.sl H.length 1 4 1, .int .u64 (n : Int)] (H ++ [.row (List.replicate 24 (.int .u8 0)) true]) K := by
  refine VCall_fn tbl_at216 rfl ?_
  obtain ⟨a, ha⟩ : ∃ a : Nat, a = n % 100 := ⟨_, rfl⟩
  obtain ⟨c, hc⟩ : ∃ c : Nat, c = n / 100 := ⟨_, rfl⟩
  obtain ⟨j, hj⟩ : ∃ j : Nat, j = 2 * a := ⟨_, rfl⟩
  obtain ⟨k, hk⟩ : ∃ k : Nat, k = 2 * c := ⟨_, rfl⟩
  have r0 : Int.tmod (n : Int) 10000 = (n : Int) := by rw [Int.tmod_eq_emod_of_nonneg (by omega)]; omega
  have q0 : Int.tdiv (n : Int) 10000 = 0 := by rw [Int.tdiv_eq_ediv_of_nonneg (by omega)]; omega
  have r1 : Int.tmod (n : Int) 100 = (a : Int) := by rw [Int.tmod_eq_emod_of_nonneg (by omega)]; omega
  have q1 : Int.tdiv (n : Int) 100 = (c : Int) := by rw [Int.tdiv_eq_ediv_of_nonneg (by omega)]; omega
  have w0 : IntKind.wrap .u32 (n : Int) = (n : Int) := u32_wrap (by omega)
  have w1 : IntKind.wrap .u32 ((a : Int) * 2) = (j : Int) := by simp [IntKind.wrap, IntKind.bits, IntKind.signed]; omega
  have w2 : IntKind.wrap .u32 ((j : Int) + 1) = (j : Int) + 1 := by simp [IntKind.wrap, IntKind.bits, IntKind.signed]; omega
  have w3 : IntKind.wrap .u32 (c : Int) = (c : Int) := u32_wrap (by omega)
  have w4 : IntKind.wrap .u32 ((c : Int) * 2) = (k : Int) := by simp [IntKind.wrap, IntKind.bits, IntKind.signed]; omega
  have w5 : IntKind.wrap .u32 ((k : Int) + 1) = (k : Int) + 1 := by simp [IntKind.wrap, IntKind.bits, IntKind.signed]; omega
  have w6 : IntKind.wrap .u32 0 = 0 := rfl
  have x1 := sm_ix (j := 2 * a + 1) (d := a % 10) (by omega) (by omega) (sm_hi a (by omega))
  have x0 := sm_ix (j := 2 * a) (d := a / 10) (by omega) (by omega) (sm_lo a (by omega))
  have x3 := sm_ix (j := 2 * c + 1) (d := c % 10) (by omega) (by omega) (sm_hi c (by omega))
  have x2 := sm_ix (j := 2 * c) (d := c / 10) (by omega) (by omega) (sm_lo c (by omega))
  rw [← hj] at x0 x1
  rw [← hk] at x2 x3
  have ej : ((j + 1 : Nat) : Int) = (j : Int) + 1 := by omega
  have ek : ((k + 1 : Nat) : Int) = (k : Int) + 1 := by omega
  rw [ej] at x1
  rw [ek] at x3
  have e0 : 48 + n / 1000 = 48 + c / 10 := by omega
  have e1 : 48 + n / 100 % 10 = 48 + c % 10 := by omega
  have e2 : 48 + n / 10 % 10 = 48 + a / 10 := by omega
  have e3 : 48 + n % 10 = 48 + a % 10 := by omega
  rw [e0, e1, e2, e3] at hK
  obtain ⟨d0, hd0⟩ : ∃ d, d = 48 + a / 10 := ⟨_, rfl⟩
  obtain ⟨d1, hd1⟩ : ∃ d, d = 48 + a % 10 := ⟨_, rfl⟩
  obtain ⟨d2, hd2⟩ : ∃ d, d = 48 + c / 10 := ⟨_, rfl⟩
  obtain ⟨d3, hd3⟩ : ∃ d, d = 48 + c % 10 := ⟨_, rfl⟩
  rw [← hd0] at x0 hK
  rw [← hd1] at x1 hK
  rw [← hd2] at x2 hK
  rw [← hd3] at x3 hK
  simp only [smL] at x0 x1 x2 x3
  have y3 : viaddrS 1 (.sl H.length 1 4 1) (.int .i64 3) = some (.ptr H.length 4) := by simp [viaddrS, vint]
  have y2 : viaddrS 1 (.sl H.length 1 4 1) (.int .i64 2) = some (.ptr H.length 3) := by simp [viaddrS, vint]
  have y1 : viaddrS 1 (.sl H.length 1 4 1) (.int .i64 1) = some (.ptr H.length 2) := by simp [viaddrS, vint]
  have y0 : viaddrS 1 (.sl H.length 1 4 1) (.int .i64 0) = some (.ptr H.length 1) := by simp [viaddrS, vint]
  simp [vf216]
  refine wLoop_round ?_
  simp (disch := first | omega | (simp; done)) [w0, r0, q0, r1, q1, w1, w2, w3, w4, w5, w6, x0, x1, x2, x3, y0, y1, y2, y3, wrap_i64, st_row, splice]
  simp [splice] at hK
  exact hK
theorem base5_t {H : Hp} {lim n : Nat} {K : V → Hp → Prop} (hlim : lim ≤ H.length) (h1 : 10000 ≤ n) (h2 : n < 100000)
    (hK : K (.tup []) (H ++ [.row (splice (List.replicate 24 (.int .u8 0)) 1 [.int .u8 ((48 + n / 10000 : Nat) : Int), .int .u8 ((48 + n / 1000 % 10 : Nat) : Int), .int .u8 ((48 + n / 100 % 10 : Nat) : Int), .int .u8 ((48 + n / 10 % 10 : Nat) : Int), .int .u8 ((48 + n % 10 : Nat) : Int)]) true])) : VCall tbl lim 216 [.sl H.length 1 5 1, .int .u64 (n : Int)] (H ++ [.row (List.replicate 24 (.int .u8 0)) true]) K := by
  refine VCall_fn tbl_at216 rfl ?_
  obtain ⟨u, hu⟩ : ∃ u : Nat, u = n % 10000 := ⟨_, rfl⟩
  obtain ⟨e, he⟩ : ∃ e : Nat, e = n / 10000 := ⟨_, rfl⟩
  obtain ⟨a, ha⟩ : ∃ a : Nat, a = u % 100 := ⟨_, rfl⟩
  obtain ⟨c, hc⟩ : ∃ c : Nat, c = u / 100 := ⟨_, rfl⟩
  obtain ⟨j, hj⟩ : ∃ j : Nat, j = 2 * a := ⟨_, rfl⟩
  obtain ⟨k, hk⟩ : ∃ k : Nat, k = 2 * c := ⟨_, rfl⟩
  have r0 : Int.tmod (n : Int) 10000 = (u : Int) := by rw [Int.tmod_eq_emod_of_nonneg (by omega)]; omega
  have q0 : Int.tdiv (n : Int) 10000 = (e : Int) := by rw [Int.tdiv_eq_ediv_of_nonneg (by omega)]; omega
  have r1 : Int.tmod (u : Int) 100 = (a : Int) := by rw [Int.tmod_eq_emod_of_nonneg (by omega)]; omega
  have q1 : Int.tdiv (u : Int) 100 = (c : Int) := by rw [Int.tdiv_eq_ediv_of_nonneg (by omega)]; omega
  have w0 : IntKind.wrap .u32 (n : Int) = (n : Int) := u32_wrap (by omega)
  have w1 : IntKind.wrap .u32 ((a : Int) * 2) = (j : Int) := by simp [IntKind.wrap, IntKind.bits, IntKind.signed]; omega
  have w2 : IntKind.wrap .u32 ((j : Int) + 1) = (j : Int) + 1 := by simp [IntKind.wrap, IntKind.bits, IntKind.signed]; omega
  have w3 : IntKind.wrap .u32 (c : Int) = (c : Int) := u32_wrap (by omega)
  have w4 : IntKind.wrap .u32 ((c : Int) * 2) = (k : Int) := by simp [IntKind.wrap, IntKind.bits, IntKind.signed]; omega
  have w5 : IntKind.wrap .u32 ((k : Int) + 1) = (k : Int) + 1 := by simp [IntKind.wrap, IntKind.bits, IntKind.signed]; omega
  have w6 : IntKind.wrap .u32 (e : Int) = (e : Int) := u32_wrap (by omega)
  have w7 : IntKind.wrap .u32 (48 + (e : Int)) = 48 + (e : Int) := by simp [IntKind.wrap, IntKind.bits, IntKind.signed]; omega
  have w8 : IntKind.wrap .u8 (48 + (e : Int)) = 48 + (e : Int) := by simp [IntKind.wrap, IntKind.bits, IntKind.signed]; omega
  have x1 := sm_ix (j := 2 * a + 1) (d := a % 10) (by omega) (by omega) (sm_hi a (by omega))
  have x0 := sm_ix (j := 2 * a) (d := a / 10) (by omega) (by omega) (sm_lo a (by omega))
  have x3 := sm_ix (j := 2 * c + 1) (d := c % 10) (by omega) (by omega) (sm_hi c (by omega))
  have x2 := sm_ix (j := 2 * c) (d := c / 10) (by omega) (by omega) (sm_lo c (by omega))
  rw [← hj] at x0 x1
  rw [← hk] at x2 x3
  have ej : ((j + 1 : Nat) : Int) = (j : Int) + 1 := by omega
  have ek : ((k + 1 : Nat) : Int) = (k : Int) + 1 := by omega
  rw [ej] at x1
  rw [ek] at x3
  have e9 : ((48 + n / 10000 : Nat) : Int) = 48 + (e : Int) := by omega
  have e0 : 48 + n / 1000 % 10 = 48 + c / 10 := by omega
  have e1 : 48 + n / 100 % 10 = 48 + c % 10 := by omega
  have e2 : 48 + n / 10 % 10 = 48 + a / 10 := by omega
  have e3 : 48 + n % 10 = 48 + a % 10 := by omega
  rw [e9, e0, e1, e2, e3] at hK
  obtain ⟨d0, hd0⟩ : ∃ d, d = 48 + a / 10 := ⟨_, rfl⟩
  obtain ⟨d1, hd1⟩ : ∃ d, d = 48 + a % 10 := ⟨_, rfl⟩
  obtain ⟨d2, hd2⟩ : ∃ d, d = 48 + c / 10 := ⟨_, rfl⟩
  obtain ⟨d3, hd3⟩ : ∃ d, d = 48 + c % 10 := ⟨_, rfl⟩
  rw [← hd0] at x0 hK
  rw [← hd1] at x1 hK
  rw [← hd2] at x2 hK
  rw [← hd3] at x3 hK
  simp only [smL] at x0 x1 x2 x3
  have y4 : viaddrS 1 (.sl H.length 1 5 1) (.int .i64 4) = some (.ptr H.length 5) := by simp [viaddrS, vint]
  have y3 : viaddrS 1 (.sl H.length 1 5 1) (.int .i64 3) = some (.ptr H.length 4) := by simp [viaddrS, vint]
  have y2 : viaddrS 1 (.sl H.length 1 5 1) (.int .i64 2) = some (.ptr H.length 3) := by simp [viaddrS, vint]
  have y1 : viaddrS 1 (.sl H.length 1 5 1) (.int .i64 1) = some (.ptr H.length 2) := by simp [viaddrS, vint]
  have y0 : viaddrS 1 (.sl H.length 1 5 1) (.int .i64 0) = some (.ptr H.length 1) := by simp [viaddrS, vint]
  simp [vf216]
  refine wLoop_round ?_
  simp (disch := first | omega | (simp; done)) [w0, r0, q0, r1, q1, w1, w2, w3, w4, w5, w6, w7, w8, x0, x1, x2, x3, y0, y1, y2, y3, y4, wrap_i64, st_row, splice]
  simp [splice] at hK
  exact hK
theorem base6_t {H : Hp} {lim n : Nat} {K : V → Hp → Prop} (hlim : lim ≤ H.length) (h1 : 100000 ≤ n) (h2 : n < 1000000)
    (hK : K (.tup []) (H ++ [.row (splice (List.replicate 24 (.int .u8 0)) 1 [.int .u8 ((48 + n / 100000 : Nat) : Int), .int .u8 ((48 + n / 10000 % 10 : Nat) : Int), .int .u8 ((48 + n / 1000 % 10 : Nat) : Int), .int .u8 ((48 + n / 100 % 10 : Nat) : Int), .int .u8 ((48 + n / 10 % 10 : Nat) : Int), .int .u8 ((48 + n % 10 : Nat) : Int)]) true])) : VCall tbl lim 216 [.sl H.length 1 6 1, .int .u64 (n : Int)] (H ++ [.row (List.replicate 24 (.int .u8 0)) true]) K := by
  refine VCall_fn tbl_at216 rfl ?_
  obtain ⟨u, hu⟩ : ∃ u : Nat, u = n % 10000 := ⟨_, rfl⟩
  obtain ⟨e, he⟩ : ∃ e : Nat, e = n / 10000 := ⟨_, rfl⟩
  obtain ⟨g, hg⟩ : ∃ g : Nat, g = 2 * e := ⟨_, rfl⟩
  obtain ⟨a, ha⟩ : ∃ a : Nat, a = u % 100 := ⟨_, rfl⟩
  obtain ⟨c, hc⟩ : ∃ c : Nat, c = u / 100 := ⟨_, rfl⟩
  obtain ⟨j, hj⟩ : ∃ j : Nat, j = 2 * a := ⟨_, rfl⟩
  obtain ⟨k, hk⟩ : ∃ k : Nat, k = 2 * c := ⟨_, rfl⟩
  have r0 : Int.tmod (n : Int) 10000 = (u : Int) := by rw [Int.tmod_eq_emod_of_nonneg (by omega)]; omega
  have q0 : Int.tdiv (n : Int) 10000 = (e : Int) := by rw [Int.tdiv_eq_ediv_of_nonneg (by omega)]; omega
  have r1 : Int.tmod (u : Int) 100 = (a : Int) := by rw [Int.tmod_eq_emod_of_nonneg (by omega)]; omega
  have q1 : Int.tdiv (u : Int) 100 = (c : Int) := by rw [Int.tdiv_eq_ediv_of_nonneg (by omega)]; omega
  have w0 : IntKind.wrap .u32 (n : Int) = (n : Int) := u32_wrap (by omega)
  have w1 : IntKind.wrap .u32 ((a : Int) * 2) = (j : Int) := by simp [IntKind.wrap, IntKind.bits, IntKind.signed]; omega
  have w2 : IntKind.wrap .u32 ((j : Int) + 1) = (j : Int) + 1 := by simp [IntKind.wrap, IntKind.bits, IntKind.signed]; omega
  have w3 : IntKind.wrap .u32 (c : Int) = (c : Int) := u32_wrap (by omega)
  have w4 : IntKind.wrap .u32 ((c : Int) * 2) = (k : Int) := by simp [IntKind.wrap, IntKind.bits, IntKind.signed]; omega
  have w5 : IntKind.wrap .u32 ((k : Int) + 1) = (k : Int) + 1 := by simp [IntKind.wrap, IntKind.bits, IntKind.signed]; omega
  have w6 : IntKind.wrap .u32 (e : Int) = (e : Int) := u32_wrap (by omega)
  have r2 : Int.tmod (e : Int) 100 = (e : Int) := by rw [Int.tmod_eq_emod_of_nonneg (by omega)]; omega
  have q2 : Int.tdiv (e : Int) 100 = 0 := by rw [Int.tdiv_eq_ediv_of_nonneg (by omega)]; omega
  have w7 : IntKind.wrap .u32 ((e : Int) * 2) = (g : Int) := by simp [IntKind.wrap, IntKind.bits, IntKind.signed]; omega
  have w8 : IntKind.wrap .u32 ((g : Int) + 1) = (g : Int) + 1 := by simp [IntKind.wrap, IntKind.bits, IntKind.signed]; omega
  have w9 : IntKind.wrap .u32 0 = 0 := rfl
  have x5 := sm_ix (j := 2 * e + 1) (d := e % 10) (by omega) (by omega) (sm_hi e (by omega))
  have x4 := sm_ix (j := 2 * e) (d := e / 10) (by omega) (by omega) (sm_lo e (by omega))
  rw [← hg] at x4 x5
  have eg : ((g + 1 : Nat) : Int) = (g : Int) + 1 := by omega
  rw [eg] at x5
  have x1 := sm_ix (j := 2 * a + 1) (d := a % 10) (by omega) (by omega) (sm_hi a (by omega))
  have x0 := sm_ix (j := 2 * a) (d := a / 10) (by omega) (by omega) (sm_lo a (by omega))
  have x3 := sm_ix (j := 2 * c + 1) (d := c % 10) (by omega) (by omega) (sm_hi c (by omega))
  have x2 := sm_ix (j := 2 * c) (d := c / 10) (by omega) (by omega) (sm_lo c (by omega))
  rw [← hj] at x0 x1
  rw [← hk] at x2 x3
  have ej : ((j + 1 : Nat) : Int) = (j : Int) + 1 := by omega
  have ek : ((k + 1 : Nat) : Int) = (k : Int) + 1 := by omega
  rw [ej] at x1
  rw [ek] at x3
  have e9 : 48 + n / 100000 = 48 + e / 10 := by omega
  have e8 : 48 + n / 10000 % 10 = 48 + e % 10 := by omega
  have e0 : 48 + n / 1000 % 10 = 48 + c / 10 := by omega
  have e1 : 48 + n / 100 % 10 = 48 + c % 10 := by omega
  have e2 : 48 + n / 10 % 10 = 48 + a / 10 := by omega
  have e3 : 48 + n % 10 = 48 + a % 10 := by omega
  rw [e9, e8, e0, e1, e2, e3] at hK
  obtain ⟨d0, hd0⟩ : ∃ d, d = 48 + a / 10 := ⟨_, rfl⟩
  obtain ⟨d1, hd1⟩ : ∃ d, d = 48 + a % 10 := ⟨_, rfl⟩
  obtain ⟨d2, hd2⟩ : ∃ d, d = 48 + c / 10 := ⟨_, rfl⟩
  obtain ⟨d3, hd3⟩ : ∃ d, d = 48 + c % 10 := ⟨_, rfl⟩
  obtain ⟨d4, hd4⟩ : ∃ d, d = 48 + e / 10 := ⟨_, rfl⟩
  obtain ⟨d5, hd5⟩ : ∃ d, d = 48 + e % 10 := ⟨_, rfl⟩
  rw [← hd4] at x4 hK
  rw [← hd5] at x5 hK
  rw [← hd0] at x0 hK
  rw [← hd1] at x1 hK
  rw [← hd2] at x2 hK
  rw [← hd3] at x3 hK
  simp only [smL] at x0 x1 x2 x3 x4 x5
  have y5 : viaddrS 1 (.sl H.length 1 6 1) (.int .i64 5) = some (.ptr H.length 6) := by simp [viaddrS, vint]
  have y4 : viaddrS 1 (.sl H.length 1 6 1) (.int .i64 4) = some (.ptr H.length 5) := by simp [viaddrS, vint]
  have y3 : viaddrS 1 (.sl H.length 1 6 1) (.int .i64 3) = some (.ptr H.length 4) := by simp [viaddrS, vint]
  have y2 : viaddrS 1 (.sl H.length 1 6 1) (.int .i64 2) = some (.ptr H.length 3) := by simp [viaddrS, vint]
  have y1 : viaddrS 1 (.sl H.length 1 6 1) (.int .i64 1) = some (.ptr H.length 2) := by simp [viaddrS, vint]
  have y0 : viaddrS 1 (.sl H.length 1 6 1) (.int .i64 0) = some (.ptr H.length 1) := by simp [viaddrS, vint]
  simp [vf216]
  refine wLoop_round ?_
  simp (disch := first | omega | (simp; done)) [w0, r0, q0, r1, q1, w1, w2, w3, w4, w5, w6, r2, q2, w7, w8, w9, x0, x1, x2, x3, x4, x5, y0, y1, y2, y3, y4, y5, wrap_i64, st_row, splice]
  simp [splice] at hK
  exact hK
theorem base7_t {H : Hp} {lim : Nat} {K : V → Hp → Prop} (hlim : lim ≤ H.length)
    (hK : K (.tup []) (H ++ [.row (splice (List.replicate 24 (.int .u8 0)) 1 [.int .u8 49, .int .u8 48, .int .u8 48, .int .u8 48, .int .u8 48, .int .u8 48, .int .u8 48]) true])) : VCall tbl lim 216 [.sl H.length 1 7 1, .int .u64 1000000] (H ++ [.row (List.replicate 24 (.int .u8 0)) true]) K := by
  refine VCall_fn tbl_at216 rfl ?_
  have r0 : Int.tmod (1000000 : Int) 10000 = 0 := rfl
  have q0 : Int.tdiv (1000000 : Int) 10000 = 100 := rfl
  have r1 : Int.tmod (0 : Int) 100 = 0 := rfl
  have q1 : Int.tdiv (0 : Int) 100 = 0 := rfl
  have r2 : Int.tmod (100 : Int) 100 = 0 := rfl
  have q2 : Int.tdiv (100 : Int) 100 = 1 := rfl
  have w0 : IntKind.wrap .u32 1000000 = 1000000 := rfl
  have w1 : IntKind.wrap .u32 0 = 0 := rfl
  have w2 : IntKind.wrap .u32 1 = 1 := rfl
  have w3 : IntKind.wrap .u32 100 = 100 := rfl
  have w4 : IntKind.wrap .u32 49 = 49 := rfl
  have w5 : IntKind.wrap .u8 49 = 49 := rfl
  have x1 : vidxT (.str smL) (.int .u32 1) = some (.int .u8 48) := sm_ix (j := 1) (d := 0) (by omega) (by omega) (sm_hi 0 (by omega))
  have x0 : vidxT (.str smL) (.int .u32 0) = some (.int .u8 48) := sm_ix (j := 0) (d := 0) (by omega) (by omega) (sm_lo 0 (by omega))
  simp only [smL] at x0 x1
  have y6 : viaddrS 1 (.sl H.length 1 7 1) (.int .i64 6) = some (.ptr H.length 7) := by simp [viaddrS, vint]
  have y5 : viaddrS 1 (.sl H.length 1 7 1) (.int .i64 5) = some (.ptr H.length 6) := by simp [viaddrS, vint]
  have y4 : viaddrS 1 (.sl H.length 1 7 1) (.int .i64 4) = some (.ptr H.length 5) := by simp [viaddrS, vint]
  have y3 : viaddrS 1 (.sl H.length 1 7 1) (.int .i64 3) = some (.ptr H.length 4) := by simp [viaddrS, vint]
  have y2 : viaddrS 1 (.sl H.length 1 7 1) (.int .i64 2) = some (.ptr H.length 3) := by simp [viaddrS, vint]
  have y1 : viaddrS 1 (.sl H.length 1 7 1) (.int .i64 1) = some (.ptr H.length 2) := by simp [viaddrS, vint]
  have y0 : viaddrS 1 (.sl H.length 1 7 1) (.int .i64 0) = some (.ptr H.length 1) := by simp [viaddrS, vint]
  simp [vf216]
  refine wLoop_round ?_
  simp (disch := first | omega | (simp; done)) [r0, q0, r1, q1, r2, q2, w0, w1, w2, w3, w4, w5, x0, x1, y0, y1, y2, y3, y4, y5, y6, wrap_i64, st_row, splice]
  simp [splice] at hK
  exact hK
theorem dd3 {n : Nat} (h1 : 100 ≤ n) (h2 : n < 1000) : Lib.decDigits n = [UInt8.ofNat (48 + n / 100), UInt8.ofNat (48 + n / 10 % 10), UInt8.ofNat (48 + n % 10)] := by
  rw [dd_big (by omega), dd_big (by omega), Lib.decDigits_one (by omega), show n / 10 / 10 = n / 100 by omega]; rfl
theorem dd4 {n : Nat} (h1 : 1000 ≤ n) (h2 : n < 10000) : Lib.decDigits n = [UInt8.ofNat (48 + n / 1000), UInt8.ofNat (48 + n / 100 % 10), UInt8.ofNat (48 + n / 10 % 10), UInt8.ofNat (48 + n % 10)] := by
  rw [dd_big (by omega), dd3 (by omega) (by omega), show n / 10 / 100 = n / 1000 by omega, show n / 10 / 10 = n / 100 by omega]; rfl
theorem dd5 {n : Nat} (h1 : 10000 ≤ n) (h2 : n < 100000) : Lib.decDigits n = [UInt8.ofNat (48 + n / 10000), UInt8.ofNat (48 + n / 1000 % 10), UInt8.ofNat (48 + n / 100 % 10), UInt8.ofNat (48 + n / 10 % 10), UInt8.ofNat (48 + n % 10)] := by
  rw [dd_big (by omega), dd4 (by omega) (by omega), show n / 10 / 1000 = n / 10000 by omega, show n / 10 / 100 = n / 1000 by omega, show n / 10 / 10 = n / 100 by omega]; rfl
theorem dd6 {n : Nat} (h1 : 100000 ≤ n) (h2 : n < 1000000) : Lib.decDigits n = [UInt8.ofNat (48 + n / 100000), UInt8.ofNat (48 + n / 10000 % 10), UInt8.ofNat (48 + n / 1000 % 10), UInt8.ofNat (48 + n / 100 % 10), UInt8.ofNat (48 + n / 10 % 10), UInt8.ofNat (48 + n % 10)] := by
  rw [dd_big (by omega), dd5 (by omega) (by omega), show n / 10 / 10000 = n / 100000 by omega, show n / 10 / 1000 = n / 10000 by omega, show n / 10 / 100 = n / 1000 by omega, show n / 10 / 10 = n / 100 by omega]; rfl
theorem bytesOf_n : ∀ {ds : List Nat}, (∀ d ∈ ds, d < 256) → bytesOf (ds.map fun d : Nat => V.int .u8 (d : Int)) = some (ds.map UInt8.ofNat)
  | [], _ => rfl
  | d :: ds, h => by
    have hd := h d (by simp)
    have ih := bytesOf_n (ds := ds) fun x hx => h x (by simp [hx])
    simp only [List.map_cons, bytesOf, byteOf, ih]
    simp
theorem strB_z {H : Hp} {ds : List Nat} (h : ∀ d ∈ ds, d < 256) (hl : ds.length ≤ 20) : vstrB (H ++ [.row (splice (List.replicate 24 (.int .u8 0)) 1 (ds.map fun d : Nat => V.int .u8 (d : Int))) true]) (.sl H.length 1 ds.length 1) = some (.str (bA (ds.map UInt8.ofNat))) := by
  have e : vcells 1 (H ++ [.row (splice (List.replicate 24 (.int .u8 0)) 1 (ds.map fun d : Nat => V.int .u8 (d : Int))) true]) (.sl H.length 1 ds.length 1) = some (ds.map fun d : Nat => V.int .u8 (d : Int)) := by
    simp only [vcells, List.getElem?_concat_length]
    have e1 : (splice (List.replicate 24 (V.int .u8 0)) 1 (ds.map fun d : Nat => V.int .u8 (d : Int))) = (V.int .u8 0) :: ((ds.map fun d : Nat => V.int .u8 (d : Int)) ++ (List.replicate 24 (V.int .u8 0)).drop (1 + ds.length)) := by
      simp [splice]
    rw [e1]
    simp
    omega
  simp only [vstrB, e, bytesOf_n h]
  rfl
theorem slA_z {H : Hp} {R : List V} {d : Nat} (hR : R.length = 24) (h1 : 1 ≤ d) (h2 : d ≤ 20) : vslA 24 1 (H ++ [.row R true]) (.ptr H.length 0) (some (.int .i64 1)) (some (.int .i64 (1 + (d : Int)))) = some (.sl H.length 1 d 1) := by
  have hb : vbounds 24 (some (.int .i64 1)) (some (.int .i64 (1 + (d : Int)))) = some (1, 1 + d) := by
    simp only [vbounds, vint]
    rw [if_pos (by omega), if_pos (by omega)]
    congr 2
  have e1 : ¬ (1 = 1 + d) := by omega
  have e2 : 1 + d - 1 = d := by omega
  simp only [vslA, List.getElem?_concat_length, hR, hb, e1, e2, if_false]
  simp
theorem splice_len {R cs : List V} {o : Nat} (h : o + cs.length ≤ R.length) : (splice R o cs).length = R.length := by
  simp [splice]; omega
theorem zr : List.replicate 24 (V.int .u8 0) = [V.int .u8 0, V.int .u8 0, V.int .u8 0, V.int .u8 0, V.int .u8 0, V.int .u8 0, V.int .u8 0, V.int .u8 0, V.int .u8 0, V.int .u8 0, V.int .u8 0, V.int .u8 0, V.int .u8 0, V.int .u8 0, V.int .u8 0, V.int .u8 0, V.int .u8 0, V.int .u8 0, V.int .u8 0, V.int .u8 0, V.int .u8 0, V.int .u8 0, V.int .u8 0, V.int .u8 0] := Eq.trans rfl rfl
/-- the digits of n are written -/
def BaseT (H : Hp) (lim n : Nat) : Prop := ∃ ds : List Nat, nD n = ds.length ∧ (∀ d ∈ ds, d < 256) ∧ 1 ≤ ds.length ∧ ds.length ≤ 7 ∧ ds.map UInt8.ofNat = Lib.decDigits n ∧
    (∀ K' : V → Hp → Prop, K' (.tup []) (H ++ [.row (splice (List.replicate 24 (.int .u8 0)) 1 (ds.map fun d : Nat => V.int .u8 (d : Int))) true]) → VCall tbl lim 216 [.sl H.length 1 ds.length 1, .int .u64 (n : Int)] (H ++ [.row (List.replicate 24 (.int .u8 0)) true]) K')
theorem base_t {H : Hp} {lim n : Nat} (hlim : lim ≤ H.length) (h1 : 100 ≤ n) (h2 : n ≤ 1000000) : BaseT H lim n := by
  by_cases c3 : n < 1000
  · exact ⟨[48 + n / 100, 48 + n / 10 % 10, 48 + n % 10], by unfold nD; simp [c3], by simp; omega, by simp, by simp, by rw [dd3 h1 c3]; rfl, fun K' h => base3_t hlim h1 c3 h⟩
  by_cases c4 : n < 10000
  · exact ⟨[48 + n / 1000, 48 + n / 100 % 10, 48 + n / 10 % 10, 48 + n % 10], by unfold nD; simp [c3, c4], by simp; omega, by simp, by simp, by rw [dd4 (by omega) c4]; rfl, fun K' h => base4_t hlim (by omega) c4 h⟩
  by_cases c5 : n < 100000
  · exact ⟨[48 + n / 10000, 48 + n / 1000 % 10, 48 + n / 100 % 10, 48 + n / 10 % 10, 48 + n % 10], by unfold nD; simp [c3, c4, c5], by simp; omega, by simp, by simp, by rw [dd5 (by omega) c5]; rfl, fun K' h => base5_t hlim (by omega) c5 h⟩
  by_cases c6 : n < 1000000
  · exact ⟨[48 + n / 100000, 48 + n / 10000 % 10, 48 + n / 1000 % 10, 48 + n / 100 % 10, 48 + n / 10 % 10, 48 + n % 10], by unfold nD; simp [c3, c4, c5, c6], by simp; omega, by simp, by simp, by rw [dd6 (by omega) c6]; rfl, fun K' h => base6_t hlim (by omega) c6 h⟩
  obtain rfl : n = 1000000 := by omega
  have e : Lib.decDigits 1000000 = [49, 48, 48, 48, 48, 48, 48] := by
    rw [dd_big (by omega), dd6 (by omega) (by omega)]; rfl
  exact ⟨[49, 48, 48, 48, 48, 48, 48], by unfold nD; simp, by simp, by simp, by simp, by rw [e]; rfl, fun K' h => base7_t hlim h⟩
theorem format_c {H : Hp} {lim n : Nat} {K : V → Hp → Prop} (hg : TabP H) (hlim : lim ≤ H.length) (hn : n ≤ 1000000) (hb : 100 ≤ n → BaseT H lim n) (hK : ∀ H', HX H H' → K (.str (bA (Lib.decDigits n))) H') : VCall tbl lim 204 [.int .i64 (n : Int), .int .i64 10] H K := by
  refine VCall_fn tbl_at204 rfl ?_
  have p0 : ((0 : Int) ≤ (n : Int)) = True := eq_true (by omega)
  have p1 : ((n : Int) < 0) = False := eq_false (by omega)
  by_cases h1 : n < 100
  · have h1' : ((n : Int) < 100) = True := eq_true (by omega)
    simp [vf204, p0, h1']
    refine small_t h1 ?_
    simp
    exact hK H .refl
  · have h1' : ((n : Int) < 100) = False := eq_false (by omega)
    have wu : IntKind.wrap .u64 (n : Int) = (n : Int) := by simp [IntKind.wrap, IntKind.bits, IntKind.signed]; omega
    simp [vf204, p0, p1, h1', wu]
    refine numDigits_t hg.app (by omega) hn ?_
    simp
    obtain ⟨ds, e1, e2, e3, e4, e5, e6⟩ := hb (show 100 ≤ n by omega)
    have eI : ((nD n : Nat) : Int) = (ds.length : Int) := by rw [e1]
    have w1 : IntKind.wrap .i64 (1 + (ds.length : Int)) = 1 + (ds.length : Int) := wrap_i64 (by omega) (by omega)
    have sA := slA_z (H := H) (R := List.replicate 24 (V.int .u8 0)) (d := ds.length) (by simp) e3 (by omega)
    have hR : (splice (List.replicate 24 (V.int .u8 0)) 1 (ds.map fun d : Nat => V.int .u8 (d : Int))).length = 24 := by rw [splice_len (by simp; omega)]; simp
    have sB := slA_z (H := H) (d := ds.length) hR e3 (by omega)
    have sC := strB_z (H := H) e2 (by omega)
    rw [e5] at sC
    rw [zr] at sA sB sC e6
    rw [eI]
    simp [w1, sA]
    refine e6 _ ?_
    generalize splice _ 1 (ds.map fun d : Nat => V.int .u8 (d : Int)) = R at *
    simp [w1, p1, sB, sC, eI]
    exact hK _ ⟨_, rfl⟩
theorem itoa_c {H : Hp} {lim n : Nat} {K : V → Hp → Prop} (hg : TabP H) (hlim : lim ≤ H.length) (hn : n ≤ 1000000) (hb : 100 ≤ n → BaseT H lim n) (hK : ∀ H', HX H H' → K (.str (bA (Lib.decDigits n))) H') : VCall tbl lim 154 [.int .i64 (n : Int)] H K := by
  refine VCall_fn tbl_at154 rfl ?_
  simp [vf154]
  refine VCall_fn tbl_at181 rfl ?_
  simp [vf181]
  refine format_c hg hlim hn hb fun H1 x1 => ?_
  simp
  exact hK H1 x1
theorem itoa_t {H : Hp} {lim n : Nat} {K : V → Hp → Prop} (hg : TabP H) (hlim : lim ≤ H.length) (hn : n ≤ 1000000) (hK : ∀ H', HX H H' → K (.str (bA (Lib.decDigits n))) H') : VCall tbl lim 154 [.int .i64 (n : Int)] H K := itoa_c hg hlim hn (fun h => base_t hlim h hn) hK
end Go.Proofs.YtpdnbmnnkefedaaGreatDoor.Vm.T0
