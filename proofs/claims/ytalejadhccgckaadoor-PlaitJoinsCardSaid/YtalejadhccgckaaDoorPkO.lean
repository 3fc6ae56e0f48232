/- Power; the law PlaitJoins. -/
import Derived.Test.YtalejadhccgckaaDoorPkN
namespace Go.Proofs.YtalejadhccgckaaDoor.Vm
open Go
set_option maxRecDepth 100000
set_option linter.unusedSimpArgs false
set_option linter.unusedVariables false
attribute [-simp] List.getD_eq_getElem?_getD

theorem veq_self {a : ByteArray} : vbin .eql (.str a) (.str a) = some (.bool true) := by simp [vbin]
theorem veq_no {s : ByteArray} (h : ¬ s.size = 0) : vbin .eql (.str s) (.str ⟨#[]⟩) = some (.bool false) := by
  have : (s.toList == (⟨#[]⟩ : ByteArray).toList) = false := by
    rw [Lib.toList_data, Lib.toList_data]
    have hne : s.data.toList ≠ [] := fun e => h (by
      have := congrArg List.length e
      simpa using this)
    simpa using hne
  simp only [vbin, this]
theorem size0 {s : ByteArray} (h : s.size = 0) : s = ⟨#[]⟩ := ba_ext (by rw [h]; rfl) fun i hi => absurd hi (by omega)
def rep (s : ByteArray) (c : Nat) : ByteArray := ⟨(Lib.repeatL s.data.toList c).toArray⟩
theorem rep_size {s : ByteArray} {c : Nat} : (rep s c).size = c * s.size := by
  show ((Lib.repeatL s.data.toList c).toArray).size = c * s.data.size
  simp [Lib.repeatL_length]
theorem rep_zero {s : ByteArray} : rep s 0 = ⟨#[]⟩ := by simp [rep, Lib.repeatL]
theorem rep_succ {s : ByteArray} {c : Nat} : rep s c ++ s = rep s (c + 1) := by
  have e : Lib.repeatL s.data.toList (c + 1) = Lib.repeatL s.data.toList c ++ s.data.toList := by
    rw [Lib.repeatL_add]; simp [Lib.repeatL]
  have h : (rep s c ++ s).data = (rep s (c + 1)).data := by
    simp [rep, e]
  generalize rep s c ++ s = a at h
  generalize rep s (c + 1) = b at h
  cases a; cases b; simp at h; subst h; rfl
def bas (s : ByteArray) (n : Int) : ByteArray := if n < 0 then rvB (mp oppF s) else s
def powV (s : ByteArray) (n : Int) : V := if vld s then if s.size = 0 then .tup [.str ⟨#[]⟩, .int .i64 0] else if 60 < n ∨ n < -60 then .tup [.str ⟨#[]⟩, .int .i64 4] else ckdV (rep (bas s n) n.natAbs) else .tup [.str ⟨#[]⟩, .int .i64 1]
theorem repeat_t {H : Hp} {lim : Nat} {s : ByteArray} {c : Nat} {K : V → Hp → Prop} (hs : s.size ≤ 60) (hn : c ≤ 60) (hK : K (.str (rep s c)) H) : VCall tbl lim 62 [.str s, .int .i64 (c : Int)] H K := by
  refine VCall_prim (g := pRepeat) (bs := []) tbl_at62 rfl rfl (v := .str (rep s c)) ?_ (by simpa using hK)
  have h3 : s.size * c ≤ 3600 := Nat.mul_le_mul hs hn
  have h4 : s.size * c ≤ 140737488355328 := by omega
  have h5 : c ≤ 9223372036854775807 := by omega
  simp [pRepeat, flatP, flatV, gRepeat, flatT, h4, h5, rep]
theorem power_t {H : Hp} {lim : Nat} {s : ByteArray} {n : Int} {K : V → Hp → Prop} (hc : chkU8 H = true) (hlim : lim ≤ H.length) (hn : I64 n) (hK : ∀ X, K (powV s n) (H ++ X)) : VCall tbl lim 26 [.str s, .int .i64 n] H K := by
  refine VCall_fn tbl_at26 rfl ?_
  simp [vf26]
  refine valid_t hlim fun X => ?_
  unfold powV at hK
  cases hv : vld s with
  | false => simp [hv] at hK ⊢; exact hK X
  | true =>
    have hb := vld_len hv
    by_cases h0 : s.size = 0
    · have e := size0 h0
      simp [hv, h0] at hK
      subst e
      simp [veq_self]
      exact hK X
    · by_cases h6 : 60 < n
      · simp [hv, h0, h6] at hK ⊢
        simp [veq_no h0, h6]
        exact hK X
      · by_cases h7 : n < -60
        · simp [hv, h0, h6, h7] at hK ⊢
          simp [veq_no h0, h6, h7]
          exact hK X
        · simp [hv, h0, h6, h7] at hK ⊢
          by_cases h8 : n < 0
          · obtain ⟨c, hcn⟩ : ∃ c : Nat, (c : Int) = -n := ⟨n.natAbs, by omega⟩
            have sz : (rvB (mp oppF s)).size = s.size := by rw [rvB_size, mp_size]
            have na : n.natAbs = c := by omega
            have w1 : IntKind.wrap .i64 (0 - n) = (c : Int) := by rw [wrap_i64 (by omega) (by omega)]; omega
            have w2 : IntKind.wrap .i64 (-n) = (c : Int) := by rw [wrap_i64 (by omega) (by omega)]; omega
            simp [bas, h8, na] at hK
            simp [veq_no h0, h6, h7, h8]
            refine inverse_t (chk_app hc) (by simp; omega) hv fun Y => ?_
            simp [w1, w2]
            refine repeat_t (by omega) (by omega) ?_
            simp
            refine checked_t ?_
            have := hK (X ++ Y)
            unfold ckdV at this ⊢
            split <;> rename_i hq
            · rw [if_pos hq] at this; simp; exact this
            · rw [if_neg hq] at this; simp; exact this
          · obtain ⟨c, rfl⟩ : ∃ c : Nat, n = (c : Int) := ⟨n.toNat, by omega⟩
            simp [bas, h8] at hK
            simp (disch := omega) [veq_no h0, h6, h7, h8]
            refine repeat_t (by omega) (by omega) ?_
            simp
            refine checked_t ?_
            have := hK X
            unfold ckdV at this ⊢
            split <;> rename_i hq
            · rw [if_pos hq] at this; simp; exact this
            · rw [if_neg hq] at this; simp; exact this
end Go.Proofs.YtalejadhccgckaaDoor.Vm
