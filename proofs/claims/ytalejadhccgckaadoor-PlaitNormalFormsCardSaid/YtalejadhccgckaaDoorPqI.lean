/- The laws PlaitUndoes and PlaitTwists. -/
import Derived.Test.YtalejadhccgckaaDoorPqH
namespace Go.Proofs.YtalejadhccgckaaDoor.Vm
open Go
set_option maxRecDepth 100000
set_option linter.unusedSimpArgs false
set_option linter.unusedVariables false
attribute [-simp] List.getD_eq_getElem?_getD

theorem and7 {n : Int} : vbin .and (.int .i64 n) (.int .i64 7) = some (.int .i64 ((n % 8).toNat : Nat)) := by
  have e : (BitVec.ofInt 64 n &&& BitVec.ofInt 64 7).toNat = (n % 8).toNat := by
    rw [BitVec.toNat_and, BitVec.toNat_ofInt]
    have : (BitVec.ofInt 64 7).toNat = 2 ^ 3 - 1 := by decide
    rw [this, Nat.and_two_pow_sub_one_eq_mod]
    omega
  show some (V.int .i64 (IntKind.wrap .i64 ((BitVec.ofInt 64 n &&& BitVec.ofInt 64 7).toNat : Nat))) = _
  rw [e, wrap_i64 (n := ((n % 8).toNat : Nat)) (by omega) (by omega)]
theorem and1 {n : Int} : vbin .and (.int .i64 n) (.int .i64 1) = some (.int .i64 ((n % 2).toNat : Nat)) := by
  have e : (BitVec.ofInt 64 n &&& BitVec.ofInt 64 1).toNat = (n % 2).toNat := by
    rw [BitVec.toNat_and, BitVec.toNat_ofInt]
    have : (BitVec.ofInt 64 1).toNat = 2 ^ 1 - 1 := by decide
    rw [this, Nat.and_two_pow_sub_one_eq_mod]
    omega
  show some (V.int .i64 (IntKind.wrap .i64 ((BitVec.ofInt 64 n &&& BitVec.ofInt 64 1).toNat : Nat))) = _
  rw [e, wrap_i64 (n := ((n % 2).toNat : Nat)) (by omega) (by omega)]
theorem vld0 : vld ⟨#[]⟩ = true := by decide
theorem rep_bas {s : ByteArray} {n : Nat} (hv : vld s = true) : lst (rep (bas s (-(n : Int))) n) = inv (lst (rep s n)) := by
  unfold bas
  split
  · rw [lst_rep, lst_inv hv, inv_pw, ← lst_rep]
  · have : n = 0 := by omega
    subst this
    rw [rep_zero]; rfl
theorem vld_rep {s : ByteArray} {n : Nat} (hv : vld s = true) (h : (rep s n).size ≤ 60) : vld (rep s n) = true := by
  have hl : allL (lst (rep s n)) := by rw [lst_rep]; exact allL_pw (allL_vld hv)
  have key : ∀ m, m ≤ (rep s n).size → allN (letB (rep s n)) m = true := by
    intro m
    induction m with
    | zero => intro _; rfl
    | succ m ih =>
      intro hm
      simp only [allN, ih (by omega), Bool.true_and, letB]
      have h1 := lst_at (s := rep s n) (i := m) (by omega)
      have h2 := hl _ (List.mem_of_getElem? h1)
      rcases h2 with e | e | e | e <;> rw [e] <;> rfl
  rw [vld, key _ (Nat.le_refl _), Bool.true_and]
  exact decide_eq_true h
theorem vld_bas {s : ByteArray} {n : Int} (hv : vld s = true) : vld (bas s n) = true := by
  unfold bas
  split
  · exact vld_rv (vld_opp hv)
  · exact hv
theorem bas_size {s : ByteArray} {n : Int} : (bas s n).size = s.size := by
  unfold bas
  split
  · rw [rvB_size, mp_size]
  · rfl
/-- the power of a word by a small number -/
theorem powV_small {s : ByteArray} {n : Int} (hv : vld s = true) (hn : -7 ≤ n ∧ n ≤ 7) : powV s n = ckdV (rep (bas s n) n.natAbs) := by
  unfold powV
  rw [if_pos hv]
  split
  · rename_i h
    have : rep (bas s n) n.natAbs = ⟨#[]⟩ := size0 (by rw [rep_size, bas_size, h]; simp)
    rw [this]; rfl
  · rw [if_neg (by omega)]
theorem bas_pos {s : ByteArray} {n : Nat} : bas s (n : Int) = s := by
  unfold bas; rw [if_neg (by omega)]
theorem eqv_nil {u : ByteArray} (hu : vld u = true) (h1 : matL .one (lst u) = .one) (h2 : cntS 0 (lst u) = 0) : eqv u ⟨#[]⟩ = true :=
  eqv_of hu vld0 (by rw [h1]; rfl) (by rw [h2]; rfl)
theorem law_PlaitUndoes {H : Hp} {lim : Nat} {s : ByteArray} {n : Int} {K : V → Hp → Prop} (hH : HX glHp H) (hlim : lim ≤ H.length) (h1 : s.size ≤ maxLen) (hn : I64 n) (hK : ∀ X, K (.bool true) (H ++ X)) : VCall tbl lim 12 [.str s, .int .i64 n] H K := by
  have hc := chk_of hH
  refine VCall_fn tbl_at12 rfl ?_
  simp [vf12]
  refine long_t ?_
  by_cases hu : 200 < s.size
  · simp [hu]
    exact known_t hc hlim fun X => by simp; exact hK X
  simp [hu]
  obtain ⟨c, hcn, hc7⟩ : ∃ c : Nat, (n % 8).toNat = c ∧ c ≤ 7 := ⟨_, rfl, by omega⟩
  have a7 := and7 (n := n)
  rw [hcn] at a7
  refine inverse2_t hc hlim fun X1 => ?_
  cases hv : vld s with
  | false =>
    have hj : joinV s noT = .tup [.str noT, .int .i64 1] := by simp [joinV, hv]
    simp [wV_0 hv]
    refine join_t (by simp; omega) fun X2 => ?_
    simp [hj]
    exact known_t (chk_app hc) (by simp; omega) fun W => by simp; exact hK _
  | true =>
    simp [wV_1 hv]
    refine join_t (by simp; omega) fun X2 => ?_
    have hvi := vld_rv (vld_opp hv)
    have hli := lst_inv hv
    have hsz : (rvB (mp oppF s)).size = s.size := by rw [rvB_size, mp_size]
    have hl := allL_vld hv
    generalize rvB (mp oppF s) = iw at hvi hli hsz
    by_cases hz : s.size + iw.size ≤ 60
    case neg =>
      have hj : joinV s iw = .tup [.str noT, .int .i64 4] := by simp [joinV, hv, hvi, ckdV, hz]
      simp [hj]
      exact known_t (chk_app hc) (by simp; omega) fun W => by simp; exact hK _
    have hj : joinV s iw = .tup [.str (s ++ iw), .int .i64 0] := by simp [joinV, hv, hvi, ckdV, hz]
    have hvj := vld_app hv hvi hz
    have hq := eqv_nil hvj (by rw [lst_app, hli]; exact matL_inv hl) (by rw [lst_app, hli]; exact cntS_inv hl)
    have hsj : samV (s ++ iw) ⟨#[]⟩ = .tup [.bool true, .int .i64 0] := by simp [samV, hvj, vld0, hq]
    have p1 := powV_small (s := s) (n := (c : Int)) hv (by omega)
    have p2 := powV_small (s := s) (n := -(c : Int)) hv (by omega)
    rw [bas_pos] at p1
    rw [show (c : Int).natAbs = c by omega] at p1
    rw [show (-(c : Int)).natAbs = c by omega] at p2
    have hlb := rep_bas (n := c) hv
    have vb := vld_bas (n := -(c : Int)) hv
    have sb := bas_size (s := s) (n := -(c : Int))
    have nc : IntKind.wrap .i64 (0 - (c : Int)) = -(c : Int) := by rw [wrap_i64 (by omega) (by omega)]; omega
    have nc2 : IntKind.wrap .i64 (-(c : Int)) = -(c : Int) := wrap_i64 (by omega) (by omega)
    generalize bas s (-(c : Int)) = bw at hlb vb sb p2
    simp [hj]
    refine same_t (chk_app hc) (by simp; omega) fun X3 => ?_
    simp [hsj, a7]
    refine power_t (chk_app hc) (by simp; omega) (by constructor <;> omega) fun X4 => ?_
    rw [p1]
    have rs1 : (rep s c).size = c * s.size := rep_size
    have rs2 : (rep bw c).size = c * s.size := by rw [rep_size, sb]
    by_cases hr : c * s.size ≤ 60
    case neg =>
      have k1 : ckdV (rep s c) = .tup [.str noT, .int .i64 4] := by simp only [ckdV, rs1, hr, if_false]
      have k2 : ckdV (rep bw c) = .tup [.str noT, .int .i64 4] := by simp only [ckdV, rs2, hr, if_false]
      have hj2 : joinV noT noT = .tup [.str noT, .int .i64 0] := by
        have e0 : noT ++ noT = noT := rfl
        simp only [joinV, vld0, Bool.and_self, if_true, e0, ckdV]
        rfl
      simp [k1, a7, nc, nc2]
      refine power_t (chk_app hc) (by simp; omega) (by constructor <;> omega) fun X5 => ?_
      rw [p2]
      simp [k2]
      refine join_t (by simp; omega) fun X6 => ?_
      simp [hj2]
      exact known_t (chk_app hc) (by simp; omega) fun W => by simp; exact hK _
    have k1 : ckdV (rep s c) = .tup [.str (rep s c), .int .i64 0] := by simp only [ckdV, rs1, hr, if_true]
    have k2 : ckdV (rep bw c) = .tup [.str (rep bw c), .int .i64 0] := by simp only [ckdV, rs2, hr, if_true]
    have v1 := vld_rep (n := c) hv (by omega)
    have v2 := vld_rep (n := c) vb (by omega)
    have hlr : allL (lst (rep s c)) := by rw [lst_rep]; exact allL_pw hl
    generalize rep s c = ra at rs1 hlb k1 v1 hlr
    generalize rep bw c = rb at rs2 hlb k2 v2 p2
    simp [k1, a7, nc, nc2]
    refine power_t (chk_app hc) (by simp; omega) (by constructor <;> omega) fun X5 => ?_
    rw [p2]
    simp [k2]
    refine join_t (by simp; omega) fun X6 => ?_
    by_cases hz2 : ra.size + rb.size ≤ 60
    case neg =>
      have hj3 : joinV ra rb = .tup [.str noT, .int .i64 4] := by simp [joinV, v1, v2, ckdV, hz2]
      simp [hj3]
      exact known_t (chk_app hc) (by simp; omega) fun W => by simp; exact hK _
    have hj3 : joinV ra rb = .tup [.str (ra ++ rb), .int .i64 0] := by simp [joinV, v1, v2, ckdV, hz2]
    have hvj3 := vld_app v1 v2 hz2
    have hq3 := eqv_nil hvj3 (by rw [lst_app, hlb]; exact matL_inv hlr) (by rw [lst_app, hlb]; exact cntS_inv hlr)
    have hsj3 : samV (ra ++ rb) ⟨#[]⟩ = .tup [.bool true, .int .i64 0] := by simp [samV, hvj3, vld0, hq3]
    simp [hj3]
    refine same_t (chk_app hc) (by simp; omega) fun X7 => ?_
    simp [hsj3]
    exact known_t (chk_app hc) (by simp; omega) fun W => by simp; exact hK _
end Go.Proofs.YtalejadhccgckaaDoor.Vm
