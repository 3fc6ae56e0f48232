/- Join; the law PlaitMatrices. -/
import Derived.Test.YtalejadhccgckaaDoorPkC
namespace Go.Proofs.YtalejadhccgckaaDoor.Vm
open Go
set_option maxRecDepth 100000
set_option linter.unusedSimpArgs false
set_option linter.unusedVariables false
attribute [-simp] List.getD_eq_getElem?_getD

abbrev noT : ByteArray := ⟨#[]⟩
def ckdV (s : ByteArray) : V := if s.size ≤ 60 then .tup [.str s, .int .i64 0] else .tup [.str noT, .int .i64 4]
theorem checked_t {H : Hp} {lim : Nat} {s : ByteArray} {K : V → Hp → Prop} (hK : K (ckdV s) H) : VCall tbl lim 59 [.str s] H K := by
  refine VCall_fn tbl_at59 rfl ?_
  unfold ckdV at hK
  by_cases h : s.size ≤ 60
  · rw [if_pos h] at hK
    have e : ((60 : Int) < (s.size : Int)) = False := eq_false (by omega)
    simp [vf59, e]; exact hK
  · rw [if_neg h] at hK
    have e : ((60 : Int) < (s.size : Int)) = True := eq_true (by omega)
    simp [vf59, e]; exact hK
def joinV (u v : ByteArray) : V := if vld u && vld v then ckdV (u ++ v) else .tup [.str noT, .int .i64 1]
theorem size_app {u v : ByteArray} : (u ++ v).size = u.size + v.size := by simp
theorem chT_app {u v : ByteArray} {i : Nat} : chT (u ++ v) i = if i < u.size then chT u i else chT v (i - u.size) := by
  have e : (u ++ v).data = u.data ++ v.data := by simp
  unfold chT
  rw [e]
  simp only [Array.getD_eq_getD_getElem?]
  have e2 : u.size = u.data.size := rfl
  split
  · rename_i h; rw [Array.getElem?_append_left (by omega)]
  · rename_i h; rw [Array.getElem?_append_right (by omega), e2]
theorem vadd_str {a b : ByteArray} (h : a.size + b.size ≤ 1000000) : vbin .add (.str a) (.str b) = some (.str (a ++ b)) := by
  simp only [vbin]; rw [if_pos (by omega)]
theorem join_t {H : Hp} {lim : Nat} {u v : ByteArray} {K : V → Hp → Prop} (hlim : lim ≤ H.length) (hK : ∀ X, K (joinV u v) (H ++ X)) : VCall tbl lim 24 [.str u, .str v] H K := by
  refine VCall_fn tbl_at24 rfl ?_
  simp [vf24]
  refine valid_t hlim fun X => ?_
  unfold joinV at hK
  cases hu : vld u with
  | false =>
    simp [hu] at hK ⊢
    exact hK X
  | true =>
    simp [hu] at hK ⊢
    refine valid_t (by simp; omega) fun Y => ?_
    cases hv : vld v with
    | false =>
      simp [hv] at hK ⊢
      exact hK _
    | true =>
      have h1 := vld_len hu
      have h2 := vld_len hv
      simp [hv, vadd_str (a := u) (b := v) (by omega)] at hK ⊢
      refine checked_t ?_
      have := hK (X ++ Y)
      unfold ckdV at this ⊢
      split <;> rename_i hq
      · rw [if_pos hq] at this; simp; exact this
      · rw [if_neg hq] at this; simp; exact this
theorem vld_app {u v : ByteArray} (hu : vld u = true) (hv : vld v = true) (h : u.size + v.size ≤ 60) : vld (u ++ v) = true := by
  have key : ∀ n, n ≤ (u ++ v).size → allN (letB (u ++ v)) n = true := by
    intro n
    induction n with
    | zero => intro _; rfl
    | succ n ih =>
      intro hn
      rw [size_app] at hn
      simp only [allN, ih (by rw [size_app]; omega), Bool.true_and, letB, chT_app]
      simp only [vld, Bool.and_eq_true] at hu hv
      split
      · rename_i hi; exact allN_at hu.1 hi
      · rename_i hi; exact allN_at hv.1 (by omega)
  have k1 := key _ (Nat.le_refl _)
  rw [vld, k1, Bool.true_and, size_app]
  exact decide_eq_true h
theorem mat_app {u v : ByteArray} : mat (chT (u ++ v)) (u ++ v).size = (mat (chT u) u.size).mul (mat (chT v) v.size) := by
  rw [size_app, mat_cat (g := chT v) fun i hi => by rw [chT_app, if_neg (by omega)]; congr 1; omega]
  congr 1
  exact mat_ext fun i hi => by rw [chT_app, if_pos hi]
/-! wrapped sums -/
abbrev wr (n : Int) : Int := IntKind.wrap .i64 n
theorem wr_sub {a b : Int} : wr (wr a - wr b) = wr (a - b) := by
  simp [IntKind.wrap, IntKind.bits, IntKind.signed]; omega
theorem wr_add {a b : Int} : wr (wr a + wr b) = wr (a + b) := by
  simp [IntKind.wrap, IntKind.bits, IntKind.signed]; omega
theorem eq4_t {a b c d : Int} : eqCells [.int .i64, .int .i64, .int .i64, .int .i64] [.int .i64 a, .int .i64 b, .int .i64 c, .int .i64 d] [.int .i64 a, .int .i64 b, .int .i64 c, .int .i64 d] = some true := by
  simp [eqCells, eqCell]
theorem times_t {H : Hp} {lim : Nat} {a b : M4} {K : V → Hp → Prop} (hK : K (.agg [.int .i64 (wr (a.p * b.p + a.q * b.r)), .int .i64 (wr (a.p * b.q + a.q * b.s)), .int .i64 (wr (a.r * b.p + a.s * b.r)), .int .i64 (wr (a.r * b.q + a.s * b.s))]) H) : VCall tbl lim 44 [.agg a.V, .agg b.V] H K := by
  refine VCall_fn tbl_at44 rfl ?_
  have r0 : ∀ a b c d : V, rd none [a, b, c, d] 0 = some a := fun _ _ _ _ => rfl
  have r1 : ∀ a b c d : V, rd none [a, b, c, d] 1 = some b := fun _ _ _ _ => rfl
  have r2 : ∀ a b c d : V, rd none [a, b, c, d] 2 = some c := fun _ _ _ _ => rfl
  have r3 : ∀ a b c d : V, rd none [a, b, c, d] 3 = some d := fun _ _ _ _ => rfl
  have r4 : ∀ a b c d : V, rd (some 4) [a, b, c, d] 0 = some (.agg [a, b, c, d]) := fun _ _ _ _ => rfl
  have w1 := @wr_add
  simp only [wr] at w1 hK
  simp [vf44, M4.V, r0, r1, r2, r3, r4, splice, w1]
  exact hK

theorem veq4 {neg : Bool} {a b c d : Int} : veqA neg [.int .i64, .int .i64, .int .i64, .int .i64] (.agg [.int .i64 a, .int .i64 b, .int .i64 c, .int .i64 d]) (.agg [.int .i64 a, .int .i64 b, .int .i64 c, .int .i64 d]) = some (.bool (!neg)) := by
  simp only [veqA, eq4_t]; cases neg <;> rfl
theorem dz4 : List.drop 4 (ints (zs 4)) = [] := rfl
theorem lw_PlaitMatrices {H : Hp} {lim : Nat} {u v : ByteArray} {K : V → Hp → Prop} (hc : chkU8 H = true) (hlim : lim ≤ H.length) (hK : ∀ X, K (.bool true) (H ++ X)) : VCall tbl lim 7 [.str u, .str v] H K := by
  refine VCall_fn tbl_at7 rfl ?_
  simp [vf7]
  refine long_t ?_
  by_cases hu : 200 < u.size
  · simp [hu]
    exact known_t hc hlim fun X => by simp; exact hK X
  simp [hu]
  refine long_t ?_
  by_cases hw : 200 < v.size
  · simp [hw]
    exact known_t hc hlim fun X => by simp; exact hK X
  simp [hw]
  have r4 : ∀ a b c d : V, rd (some 4) [a, b, c, d] 0 = some (.agg [a, b, c, d]) := fun _ _ _ _ => rfl
  cases hvu : vld u with
  | false =>
    have hj : joinV u v = .tup [.str noT, .int .i64 1] := by simp [joinV, hvu]
    refine matrix_t hlim (fun h => by rw [hvu] at h; cases h) fun _ X => ?_
    simp [splice]
    refine matrix_r (by omega) (fun h => by rw [hvu] at h; cases h) fun _ => ?_
    simp [splice, r4, eq4_t, dz4, veq4]
    refine matrix_t (by simp; omega) (fun _ Y => ?_) (fun _ Y => ?_)
    all_goals
      simp [splice, M4.V, dz4]
      refine join_t (by simp; omega) fun Z => ?_
      simp [hj]
      exact known_t (chk_app hc) (by simp; omega) fun W => by simp; exact hK _
  | true =>
    refine matrix_t hlim (fun _ X => ?_) (fun h => by rw [hvu] at h; cases h)
    simp [splice, M4.V, dz4]
    refine matrix_r (by omega) (fun _ => ?_) (fun h => by rw [hvu] at h; cases h)
    simp [splice, r4, eq4_t, M4.V, dz4, veq4]
    cases hvv : vld v with
    | false =>
      have hj : joinV u v = .tup [.str noT, .int .i64 1] := by simp [joinV, hvu, hvv]
      refine matrix_t (by simp; omega) (fun h => by rw [hvv] at h; cases h) fun _ Y => ?_
      simp [splice]
      refine join_t (by simp; omega) fun Z => ?_
      simp [hj]
      exact known_t (chk_app hc) (by simp; omega) fun W => by simp; exact hK _
    | true =>
      refine matrix_t (by simp; omega) (fun _ Y => ?_) (fun h => by rw [hvv] at h; cases h)
      simp [splice, M4.V, dz4]
      refine join_t (by simp; omega) fun Z => ?_
      by_cases hz : u.size + v.size ≤ 60
      · have hj : joinV u v = .tup [.str (u ++ v), .int .i64 0] := by simp [joinV, hvu, hvv, ckdV, hz]
        have hw := vld_app hvu hvv hz
        have hm := mat_app (u := u) (v := v)
        have hd := mat_det (f := chT u) u.size
        have hb := mat_bd60 (f := chT (u ++ v)) (n := (u ++ v).size) (by rw [size_app]; omega)
        simp [hj]
        refine matrix_t (by simp; omega) (fun _ W => ?_) (fun h => by rw [hw] at h; cases h)
        rw [hm] at hb ⊢
        generalize mat (chT u) u.size = a at hd hb
        generalize mat (chT v) v.size = b at hb
        have w1 := @wr_sub
        simp only [wr] at w1
        have r0 : ∀ a b c d : V, rd none [a, b, c, d] 0 = some a := fun _ _ _ _ => rfl
        have r1 : ∀ a b c d : V, rd none [a, b, c, d] 1 = some b := fun _ _ _ _ => rfl
        have r2 : ∀ a b c d : V, rd none [a, b, c, d] 2 = some c := fun _ _ _ _ => rfl
        have r3 : ∀ a b c d : V, rd none [a, b, c, d] 3 = some d := fun _ _ _ _ => rfl
        have hd1 : IntKind.wrap .i64 (a.p * a.s - a.q * a.r) = 1 := by
          have : a.p * a.s - a.q * a.r = 1 := hd
          rw [this]; rfl
        simp [splice, M4.V, dz4, r0, r1, r2, r3, r4, w1, hd1, veq4]
        have bp : IntKind.wrap .i64 (a.p * b.p + a.q * b.r) = (a.mul b).p := wrap_i64 (by simp only [M4.Bd, M4.mul] at hb; omega) (by simp only [M4.Bd, M4.mul] at hb; omega)
        have bq : IntKind.wrap .i64 (a.p * b.q + a.q * b.s) = (a.mul b).q := wrap_i64 (by simp only [M4.Bd, M4.mul] at hb; omega) (by simp only [M4.Bd, M4.mul] at hb; omega)
        have br : IntKind.wrap .i64 (a.r * b.p + a.s * b.r) = (a.mul b).r := wrap_i64 (by simp only [M4.Bd, M4.mul] at hb; omega) (by simp only [M4.Bd, M4.mul] at hb; omega)
        have bs : IntKind.wrap .i64 (a.r * b.q + a.s * b.s) = (a.mul b).s := wrap_i64 (by simp only [M4.Bd, M4.mul] at hb; omega) (by simp only [M4.Bd, M4.mul] at hb; omega)
        refine times_t (a := a) (b := b) ?_
        simp only [wr, bp, bq, br, bs]
        simp [veq4]
        have hc2 := chk_app (X := X ++ (Y ++ (Z ++ W))) hc
        refine known_t hc2 (by simp) fun W2 => ?_
        simp
        exact hK _
      · have hj : joinV u v = .tup [.str noT, .int .i64 4] := by simp [joinV, hvu, hvv, ckdV, hz]
        simp [hj]
        exact known_t (chk_app hc) (by simp; omega) fun W => by simp; exact hK _
end Go.Proofs.YtalejadhccgckaaDoor.Vm
