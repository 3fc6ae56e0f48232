/- The law PlaitTurns. -/
import Derived.Test.YtalejadhccgckaaDoorPkM
import Derived.Test.YtalejadhccgckaaDoorPkE
namespace Go.Proofs.YtalejadhccgckaaDoor.Vm
open Go
set_option maxRecDepth 100000
set_option linter.unusedSimpArgs false
set_option linter.unusedVariables false
attribute [-simp] List.getD_eq_getElem?_getD

theorem vld_of {s t : ByteArray} (hv : vld s = true) (h : t.size = s.size) (hc : ∀ k, k < s.size → isL (chT t k) = true) : vld t = true := by
  have hb := vld_len hv
  have key : ∀ n, n ≤ t.size → allN (letB t) n = true := by
    intro n
    induction n with
    | zero => intro _; rfl
    | succ n ih =>
      intro hn
      simp only [allN, ih (by omega), Bool.true_and, letB]
      exact hc n (by omega)
  rw [vld, key _ (Nat.le_refl _), Bool.true_and]
  exact decide_eq_true (by omega)
theorem letT {s : ByteArray} (hv : vld s = true) {k : Nat} (hk : k < s.size) : isL (chT s k) = true := by
  simp only [vld, Bool.and_eq_true] at hv
  exact allN_at hv.1 hk
theorem chT_opp {s : ByteArray} (hv : vld s = true) {k : Nat} (hk : k < s.size) : chT (mp oppF s) k = (oppF (chT s k : Nat)).toNat ∧ isL (chT (mp oppF s) k) = true := by
  have h := oppF_let (letT hv hk)
  have e := chT_mp (F := oppF) hk (by omega)
  exact ⟨e, by rw [e]; exact h.2.2⟩
theorem chT_nei {s : ByteArray} (hv : vld s = true) {k : Nat} (hk : k < s.size) : chT (mp neiF s) k = (neiF (chT s k : Nat)).toNat ∧ isL (chT (mp neiF s) k) = true := by
  have h := neiF_let (letT hv hk)
  have e := chT_mp (F := neiF) hk (by omega)
  exact ⟨e, by rw [e]; exact h.2.2⟩
theorem vld_opp {s : ByteArray} (hv : vld s = true) : vld (mp oppF s) = true := vld_of hv mp_size fun k hk => (chT_opp hv hk).2
theorem vld_nei {s : ByteArray} (hv : vld s = true) : vld (mp neiF s) = true := vld_of hv mp_size fun k hk => (chT_nei hv hk).2
theorem vld_rv {s : ByteArray} (hv : vld s = true) : vld (rvB s) = true := vld_of hv rvB_size fun k hk => by rw [chT_rvB hk]; exact letT hv (by omega)
theorem oppF_oppF {n : Nat} (h : isL n = true) : (oppF ((oppF n).toNat : Nat)).toNat = n := by
  simp only [isL, Bool.or_eq_true, decide_eq_true_eq] at h
  rcases h with ((rfl | rfl) | rfl) | rfl <;> decide
theorem neiF_neiF {n : Nat} (h : isL n = true) : (neiF ((neiF n).toNat : Nat)).toNat = n := by
  simp only [isL, Bool.or_eq_true, decide_eq_true_eq] at h
  rcases h with ((rfl | rfl) | rfl) | rfl <;> decide
theorem opp_opp {s : ByteArray} (hv : vld s = true) : mp oppF (mp oppF s) = s := by
  refine ba_ext (by rw [mp_size, mp_size]) fun k hk => ?_
  rw [mp_size, mp_size] at hk
  rw [(chT_opp (vld_opp hv) (by rw [mp_size]; exact hk)).1, (chT_opp hv hk).1]
  exact oppF_oppF (letT hv hk)
theorem nei_nei {s : ByteArray} (hv : vld s = true) : mp neiF (mp neiF s) = s := by
  refine ba_ext (by rw [mp_size, mp_size]) fun k hk => ?_
  rw [mp_size, mp_size] at hk
  rw [(chT_nei (vld_nei hv) (by rw [mp_size]; exact hk)).1, (chT_nei hv hk).1]
  exact neiF_neiF (letT hv hk)
theorem inv_inv {s : ByteArray} (hv : vld s = true) : rvB (mp oppF (rvB (mp oppF s))) = s := by
  refine ba_ext (by rw [rvB_size, mp_size, rvB_size, mp_size]) fun k hk => ?_
  rw [rvB_size, mp_size, rvB_size, mp_size] at hk
  have h1 := vld_opp hv
  have h2 := vld_rv h1
  rw [chT_rvB (by rw [mp_size, rvB_size, mp_size]; exact hk), mp_size, rvB_size, mp_size, (chT_opp h2 (by rw [rvB_size, mp_size]; omega)).1,
    chT_rvB (by rw [mp_size]; omega), mp_size, show s.size - 1 - (s.size - 1 - k) = k by omega, (chT_opp hv hk).1]
  exact oppF_oppF (letT hv hk)

def wV (s t : ByteArray) : V := if vld s then .tup [.str t, .int .i64 0] else .tup [.str noT, .int .i64 1]
theorem wV_1 {s t : ByteArray} (h : vld s = true) : wV s t = .tup [.str t, .int .i64 0] := by simp [wV, h]
theorem wV_0 {s t : ByteArray} (h : vld s = false) : wV s t = .tup [.str noT, .int .i64 1] := by simp [wV, h]
theorem inverse2_t {H : Hp} {lim : Nat} {s : ByteArray} {K : V → Hp → Prop} (hc : chkU8 H = true) (hlim : lim ≤ H.length) (hK : ∀ X, K (wV s (rvB (mp oppF s))) (H ++ X)) : VCall tbl lim 28 [.str s] H K := by
  refine VCall_fn tbl_at28 rfl ?_
  simp [vf28]
  refine valid_t hlim fun X => ?_
  cases hv : vld s with
  | false => simp [wV_0 hv] at hK ⊢; exact hK X
  | true =>
    simp [wV_1 hv] at hK ⊢
    refine inverse_t (chk_app hc) (by simp; omega) hv fun Y => ?_
    simp; exact hK _
theorem mirror2_t {H : Hp} {lim : Nat} {s : ByteArray} {K : V → Hp → Prop} (hc : chkU8 H = true) (hlim : lim ≤ H.length) (hK : ∀ X, K (wV s (mp oppF s)) (H ++ X)) : VCall tbl lim 30 [.str s] H K := by
  refine VCall_fn tbl_at30 rfl ?_
  simp [vf30]
  refine valid_t hlim fun X => ?_
  cases hv : vld s with
  | false => simp [wV_0 hv] at hK ⊢; exact hK X
  | true =>
    simp [wV_1 hv] at hK ⊢
    refine mirror_t (chk_app hc) hv ?_
    simp; exact hK _
theorem flip2_t {H : Hp} {lim : Nat} {s : ByteArray} {K : V → Hp → Prop} (hc : chkU8 H = true) (hlim : lim ≤ H.length) (hK : ∀ X, K (wV s (mp neiF s)) (H ++ X)) : VCall tbl lim 32 [.str s] H K := by
  refine VCall_fn tbl_at32 rfl ?_
  simp [vf32]
  refine valid_t hlim fun X => ?_
  cases hv : vld s with
  | false => simp [wV_0 hv] at hK ⊢; exact hK X
  | true =>
    simp [wV_1 hv] at hK ⊢
    refine flip_t (chk_app hc) hv ?_
    simp; exact hK _
theorem inverse2_r {H : Hp} {lim : Nat} {s : ByteArray} {K : V → Hp → Prop} (hs : s.size ≤ 1000000) (hK : ∀ X, K (wV s (rvB (mp oppF s))) (H ++ X)) : VCall tbl lim 29 [.str s] H K := by
  refine VCall_fn tbl_at29 rfl ?_
  simp [vf29]
  refine valid_r hs ?_
  cases hv : vld s with
  | false => simp [wV_0 hv] at hK ⊢; have := hK []; simpa using this
  | true =>
    have hb := vld_len hv
    simp [wV_1 hv] at hK ⊢
    refine swapped_r hv fun X => ?_
    simp
    refine backward_r (by rw [mp_size]; exact hb) ?_
    simp; exact hK _
theorem mirror2_r {H : Hp} {lim : Nat} {s : ByteArray} {K : V → Hp → Prop} (hs : s.size ≤ 1000000) (hK : ∀ X, K (wV s (mp oppF s)) (H ++ X)) : VCall tbl lim 31 [.str s] H K := by
  refine VCall_fn tbl_at31 rfl ?_
  simp [vf31]
  refine valid_r hs ?_
  cases hv : vld s with
  | false => simp [wV_0 hv] at hK ⊢; have := hK []; simpa using this
  | true =>
    simp [wV_1 hv] at hK ⊢
    refine swapped_r hv fun X => ?_
    simp; exact hK _
theorem flip2_r {H : Hp} {lim : Nat} {s : ByteArray} {K : V → Hp → Prop} (hs : s.size ≤ 1000000) (hK : ∀ X, K (wV s (mp neiF s)) (H ++ X)) : VCall tbl lim 33 [.str s] H K := by
  refine VCall_fn tbl_at33 rfl ?_
  simp [vf33]
  refine valid_r hs ?_
  cases hv : vld s with
  | false => simp [wV_0 hv] at hK ⊢; have := hK []; simpa using this
  | true =>
    simp [wV_1 hv] at hK ⊢
    refine flipped_r hv fun X => ?_
    simp; exact hK _

theorem vneq_self {a : ByteArray} : vbin .neq (.str a) (.str a) = some (.bool false) := by simp [vbin]
theorem law_PlaitTurns {H : Hp} {lim : Nat} {s : ByteArray} {K : V → Hp → Prop} (hH : HX glHp H) (hlim : lim ≤ H.length) (h1 : s.size ≤ maxLen) (hK : ∀ X, K (.bool true) (H ++ X)) : VCall tbl lim 5 [.str s] H K := by
  have hc := chk_of hH
  refine VCall_fn tbl_at5 rfl ?_
  simp [vf5]
  refine long_t ?_
  by_cases hu : 200 < s.size
  · simp [hu]
    exact known_t hc hlim fun X => by simp; exact hK X
  simp [hu]
  refine inverse2_t hc hlim fun X1 => ?_
  cases hv : vld s with
  | false =>
    simp [wV_0 hv]
    refine inverse2_r (by omega) fun X2 => ?_
    simp [wV_0 hv]
    refine mirror2_t (chk_app hc) (by simp; omega) fun X3 => ?_
    simp [wV_0 hv]
    refine mirror2_r (by omega) fun X4 => ?_
    simp [wV_0 hv]
    refine flip2_t (chk_app hc) (by simp; omega) fun X5 => ?_
    simp [wV_0 hv]
    refine flip2_r (by omega) fun X6 => ?_
    simp [wV_0 hv, vneq_self]
    exact known_t (chk_app hc) (by simp; omega) fun W => by simp; exact hK _
  | true =>
    have hb := vld_len hv
    have hvi := vld_rv (vld_opp hv)
    have hvm := vld_opp hv
    have hvx := vld_nei hv
    have ii := inv_inv hv
    have mm := opp_opp hv
    have xx := nei_nei hv
    have sz1 : (rvB (mp oppF s)).size = s.size := by rw [rvB_size, mp_size]
    have sz2 : (mp oppF s).size = s.size := mp_size
    have hcq : ∀ q, q < s.size → chT (rvB (mp oppF s)) q = chT (mp oppF s) (s.size - 1 - q) := fun q hq => by rw [chT_rvB (by rw [mp_size]; exact hq), mp_size]
    simp [wV_1 hv]
    refine inverse2_r (by omega) fun X2 => ?_
    simp [wV_1 hv]
    refine mirror2_t (chk_app hc) (by simp; omega) fun X3 => ?_
    simp [wV_1 hv]
    refine mirror2_r (by omega) fun X4 => ?_
    simp [wV_1 hv]
    refine flip2_t (chk_app hc) (by simp; omega) fun X5 => ?_
    simp [wV_1 hv]
    refine flip2_r (by omega) fun X6 => ?_
    simp [wV_1 hv, vneq_self]
    refine inverse2_t (chk_app hc) (by simp; omega) fun X7 => ?_
    simp [wV_1 hvi, ii]
    refine mirror2_t (chk_app hc) (by simp; omega) fun X8 => ?_
    simp [wV_1 hvm, mm]
    refine flip2_t (chk_app hc) (by simp; omega) fun X9 => ?_
    generalize rvB (mp oppF s) = iw at sz1 hcq
    generalize mp oppF s = mw at sz2 hcq
    simp [wV_1 hvx, xx, vneq_self, sz1, sz2]
    generalize hZ : X1 ++ (X2 ++ (X3 ++ (X4 ++ (X5 ++ (X6 ++ (X7 ++ (X8 ++ X9))))))) = Z
    refine wLoop_up s.size (fun i fr L H' => (fr 3 = .str iw ∧ fr 7 = .str mw ∧ fr 21 = .int .i64 i) ∧ H' = H ++ Z ∧ i ≤ s.size) ⟨by simp, rfl, by omega⟩ ?_
    rintro i hi fr L H' ⟨⟨f3, f7, f21⟩, rfl, hle⟩
    by_cases hp : i < s.size
    · have hp' : ((i : Int) < (s.size : Int)) = True := eq_true (by omega)
      have x1 := idxT (s := iw) (i := i) (by omega)
      have x2 := idxT (s := mw) (i := s.size - 1 - i) (by omega)
      rw [hcq i hp] at x1
      have e1 : ((s.size - 1 - i : Nat) : Int) = (s.size : Int) - 1 - i := by omega
      rw [e1] at x2
      simp (disch := omega) [f3, f7, f21, sz1, sz2, hp', x1, x2, wrap_i64]
      first | exact ⟨hp, hp⟩ | (and_intros <;> first | omega | rfl)
    · have hp' : ((i : Int) < (s.size : Int)) = False := eq_false (by omega)
      simp [f3, f7, f21, sz1, sz2, hp']
      exact known_t (chk_app hc) (by simp; omega) fun W => by simp; exact hK _
end Go.Proofs.YtalejadhccgckaaDoor.Vm
