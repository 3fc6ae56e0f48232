/- Layer 6 over the machine: what known() says; the letters of a text; Valid, of the program and of the reference. -/
import Derived.Test.YtalejadhccgckaaDoorVmTab
import Derived.Test.YtalejadhccgckaaDoorVmRec
import Derived.Test.YtalejadhccgckaaDoorVmMove
namespace Go.Proofs.YtalejadhccgckaaDoor.Vm
open Go
set_option maxRecDepth 100000
set_option linter.unusedSimpArgs false
set_option linter.unusedVariables false
attribute [-simp] List.getD_eq_getElem?_getD

/-! known() -/
def qK : FuncId → Option PrimF := fun f => if f = 62 then some (flatP (fun _ => true) gRepeat) else if f = 86 then some (flatP (fun _ => true) gMap) else if f = 52 then some (flatD 2 (fun _ => true) gParse) else none
theorem known_run : isTrue (evFn (knT tbl qK) 60 0 18 [] []) = true := by kernel_rfl
theorem chk_app {H X : Hp} (h : chkU8 H = true) : chkU8 (H ++ X) = true := by
  simp only [chkU8, Bool.and_eq_true] at h ⊢
  have key : ∀ b t, rowIs H b t = true → rowIs (H ++ X) b t = true := by
    intro b t h
    unfold rowIs at h ⊢
    split at h
    case h_2 => cases h
    rename_i cs own hb
    rw [List.getElem?_append_left (List.getElem?_eq_some_iff.1 hb).1, hb]
    exact h
  exact ⟨key _ _ h.1, key _ _ h.2⟩
theorem known_t {H : Hp} {lim : Nat} {K : V → Hp → Prop} (hc : chkU8 H = true) (hlim : lim ≤ H.length) (hK : ∀ X, K (.bool true) (H ++ X)) : VCall tbl lim 18 [] H K := by
  refine vcall_knownT (T0 := knT tbl qK) (ShT.kn fun f g0 hq vf hvf => ?_) known_run hlim hK
  unfold qK at hq
  split at hq
  · rename_i e; subst e; cases hq
    rw [tbl_at62] at hvf; cases hvf
    exact ⟨_, rfl, primSh_flat fun _ => rfl⟩
  · split at hq
    · rename_i e; subst e; cases hq
      rw [tbl_at86] at hvf; cases hvf
      exact ⟨_, rfl, primSh_flat fun X => chk_app hc⟩
    · split at hq
      · rename_i e; subst e; cases hq
        rw [tbl_at52] at hvf; cases hvf
        exact ⟨_, rfl, primSh_flatD fun X => chk_app hc⟩
      · cases hq

/-! letters -/
theorem vlenT_str {s : ByteArray} : vlenT (.str s) = some (.int .i64 s.size) := Eq.trans rfl rfl
attribute [simp] vlenT_str
theorem lastO {α : Type} {X : List α} {c : α} : (X ++ [c])[X.length]? = some c := by simp
theorem lastS {α : Type} {X : List α} {c d : α} : (X ++ [c]).set X.length d = X ++ [d] := by simp
/-- a byte of a text -/
def chT (s : ByteArray) (i : Nat) : Nat := (s.data.getD i 0).toNat
theorem chT_lt {s : ByteArray} {i : Nat} : chT s i < 256 := UInt8.toNat_lt _
theorem idxT {s : ByteArray} {i : Nat} (h : i < s.size) : vidxT (.str s) (.int .i64 (i : Int)) = some (.int .u8 (chT s i : Nat)) := by
  simp only [vidxT, vint]; rw [if_pos (by omega)]; rfl
theorem get_chT {s : ByteArray} {i : Nat} : (s.get! i).toNat = chT s i := by
  unfold chT
  show (s.data[i]!).toNat = _
  rw [Array.getElem!_eq_getD, Array.getD_eq_getD_getElem?, Array.getD_eq_getD_getElem?]
  rfl
/-- the bytes of ASCII stand for themselves -/
theorem dec_lt {s : ByteArray} {i : Nat} (h : chT s i < 128) : Utf8.decode s i = (chT s i, 1) := by
  unfold Utf8.decode
  simp only [Nat.add_zero, get_chT]
  rw [if_pos h]
theorem dec_ge {s : ByteArray} {i : Nat} (h : ¬ chT s i < 128) : 128 ≤ (Utf8.decode s i).1 := by
  unfold Utf8.decode
  simp only [Nat.add_zero, get_chT]
  rw [if_neg h]
  repeat' split
  all_goals simp only [Utf8.runeError]
  all_goals simp only [ge_iff_le, Bool.and_eq_true, decide_eq_true_eq] at *
  all_goals omega
def isL (n : Nat) : Bool := decide (n = 97) || decide (n = 65) || decide (n = 98) || decide (n = 66)
def isLI (n : Int) : Bool := decide (n = 97) || decide (n = 65) || decide (n = 98) || decide (n = 66)
def allN (f : Nat → Bool) : Nat → Bool
  | 0 => true
  | n + 1 => allN f n && f n
theorem allN_at {f : Nat → Bool} : ∀ {n : Nat}, allN f n = true → ∀ {i : Nat}, i < n → f i = true
  | n + 1, h, i, hi => by
    simp only [allN, Bool.and_eq_true] at h
    by_cases e : i = n
    · subst e; exact h.2
    · exact allN_at h.1 (by omega)
theorem allN_not {f : Nat → Bool} {n i : Nat} (hi : i < n) (hf : f i = false) : allN f n = false := by
  cases h : allN f n with
  | false => rfl
  | true => rw [allN_at h hi] at hf; cases hf
def letB (s : ByteArray) (i : Nat) : Bool := isL (chT s i)
/-- a word -/
def vld (s : ByteArray) : Bool := allN (letB s) s.size && decide (s.size ≤ 60)
theorem vld_at {s : ByteArray} (h : vld s = true) {i : Nat} (hi : i < s.size) : chT s i = 97 ∨ chT s i = 65 ∨ chT s i = 98 ∨ chT s i = 66 := by
  simp only [vld, Bool.and_eq_true] at h
  have := allN_at h.1 hi
  simp only [letB, isL, Bool.or_eq_true, decide_eq_true_eq] at this
  omega
theorem vld_len {s : ByteArray} (h : vld s = true) : s.size ≤ 60 := by
  simp only [vld, Bool.and_eq_true, decide_eq_true_eq] at h
  exact h.2
theorem letB_dec {s : ByteArray} {i : Nat} (hi : letB s i = true) : Utf8.decode s i = (chT s i, 1) := by
  refine dec_lt ?_
  simp only [letB, isL, Bool.or_eq_true, decide_eq_true_eq] at hi
  omega
theorem letB_I {s : ByteArray} {i : Nat} : isLI ((Utf8.decode s i).1 : Nat) = letB s i := by
  by_cases h : chT s i < 128
  · rw [dec_lt h]
    simp only [isLI, letB, isL]
    congr 1
    · congr 1
      · congr 1
        · exact decide_eq_decide.2 (by omega)
        · exact decide_eq_decide.2 (by omega)
      · exact decide_eq_decide.2 (by omega)
    · exact decide_eq_decide.2 (by omega)
  · have := dec_ge h
    have e1 : letB s i = false := by
      simp only [letB, isL, Bool.or_eq_false_iff, decide_eq_false_iff_not]; omega
    have e2 : isLI ((Utf8.decode s i).1 : Nat) = false := by
      simp only [isLI, Bool.or_eq_false_iff, decide_eq_false_iff_not]; omega
    rw [e1, e2]
/-- the next letter -/
theorem vnext_some {lim : Nat} {H : Hp} {s : ByteArray} {p : Nat} (hl : lim ≤ H.length) (hp : p < s.size) : vnext lim (H ++ [.sit s p]) (.it H.length) = some (.tup [.bool true, .int .i64 p, .int .i32 (Utf8.decode s p).1], H ++ [.sit s (p + (Utf8.decode s p).2)]) := by
  simp only [vnext, hl, if_true, lastO, hp, lastS]
theorem vnext_end {lim : Nat} {H : Hp} {s : ByteArray} {p : Nat} (hl : lim ≤ H.length) (hp : ¬ p < s.size) : vnext lim (H ++ [.sit s p]) (.it H.length) = some (.tup [.bool false], H ++ [.sit s p]) := by
  simp only [vnext, hl, if_true, lastO, hp, if_false]

theorem long_t {H : Hp} {lim : Nat} {s : ByteArray} {K : V → Hp → Prop} (hK : K (.bool (decide (200 < s.size))) H) : VCall tbl lim 17 [.str s] H K := by
  refine VCall_fn tbl_at17 rfl ?_
  simp [vf17]
  have e : decide ((200 : Int) < (s.size : Int)) = decide (200 < s.size) := decide_eq_decide.2 (by omega)
  rw [e]; exact hK
end Go.Proofs.YtalejadhccgckaaDoor.Vm
