/- The reference's Join and Power; the law PlaitJoins. -/
import Derived.Test.YtalejadhccgckaaDoorPkO
namespace Go.Proofs.YtalejadhccgckaaDoor.Vm
open Go
set_option maxRecDepth 100000
set_option linter.unusedSimpArgs false
set_option linter.unusedVariables false
attribute [-simp] List.getD_eq_getElem?_getD

theorem short_r {H : Hp} {lim : Nat} {s : ByteArray} {K : V → Hp → Prop} (hK : K (ckdV s) H) : VCall tbl lim 60 [.str s] H K := by
  refine VCall_fn tbl_at60 rfl ?_
  unfold ckdV at hK
  by_cases h : s.size ≤ 60
  · rw [if_pos h] at hK
    have e : ((60 : Int) < (s.size : Int)) = False := eq_false (by omega)
    simp [vf60, e]; exact hK
  · rw [if_neg h] at hK
    have e : ((60 : Int) < (s.size : Int)) = True := eq_true (by omega)
    simp [vf60, e]; exact hK
theorem join_r {H : Hp} {lim : Nat} {u v : ByteArray} {K : V → Hp → Prop} (h1 : u.size ≤ 1000000) (h2 : v.size ≤ 1000000) (hK : K (joinV u v) H) : VCall tbl lim 25 [.str u, .str v] H K := by
  refine VCall_fn tbl_at25 rfl ?_
  simp [vf25]
  refine valid_r h1 ?_
  unfold joinV at hK
  cases hu : vld u with
  | false =>
    simp [hu] at hK ⊢
    exact hK
  | true =>
    simp [hu] at hK ⊢
    refine valid_r h2 ?_
    cases hv : vld v with
    | false =>
      simp [hv] at hK ⊢
      exact hK
    | true =>
      have h1 := vld_len hu
      have h2 := vld_len hv
      simp [hv, vadd_str (a := u) (b := v) (by omega)] at hK ⊢
      refine short_r ?_
      unfold ckdV at hK ⊢
      split <;> rename_i hq
      · rw [if_pos hq] at hK; simp; exact hK
      · rw [if_neg hq] at hK; simp; exact hK
theorem ckd0 {s : ByteArray} : ckdV (rep s 0) = .tup [.str ⟨#[]⟩, .int .i64 0] := by
  rw [rep_zero]; rfl
theorem power_r {H : Hp} {lim : Nat} {s : ByteArray} {n : Int} {K : V → Hp → Prop} (hs : s.size ≤ 1000000) (hn : I64 n) (hK : ∀ X, K (powV s n) (H ++ X)) : VCall tbl lim 27 [.str s, .int .i64 n] H K := by
  refine VCall_fn tbl_at27 rfl ?_
  simp [vf27]
  refine valid_r hs ?_
  unfold powV at hK
  cases hv : vld s with
  | false => simp [hv] at hK ⊢; have := hK []; simpa using this
  | true =>
    have hb := vld_len hv
    by_cases h0 : s.size = 0
    · have e := size0 h0
      simp [hv, h0] at hK
      subst e
      simp [veq_self]
      have := hK []; simpa using this
    · by_cases hz : n = 0
      · subst hz
        simp [hv, h0, bas, ckd0] at hK
        simp [veq_no h0]
        have := hK []; simpa using this
      by_cases h6 : 60 < n
      · simp [hv, h0, h6] at hK
        simp [veq_no h0, h6, hz]
        have := hK []; simpa using this
      · by_cases h7 : n < -60
        · simp [hv, h0, h6, h7] at hK
          simp [veq_no h0, h6, h7, hz]
          have := hK []; simpa using this
        · simp [hv, h0, h6, h7] at hK
          have loop : ∀ (fr : Fr) (b : ByteArray) (c : Nat) (H' : Hp), b.size ≤ 60 → c ≤ 60 → fr 0 = .str b → fr 1 = .int .i64 (c : Int) → fr 6 = .str ⟨#[]⟩ → fr 7 = .int .i64 0 → True := fun _ _ _ _ _ _ _ _ _ _ => trivial
          by_cases h8 : n < 0
          · obtain ⟨c, hcn⟩ : ∃ c : Nat, (c : Int) = -n := ⟨n.natAbs, by omega⟩
            have na : n.natAbs = c := by omega
            have w1 : IntKind.wrap .i64 (0 - n) = (c : Int) := by rw [wrap_i64 (by omega) (by omega)]; omega
            have w2 : IntKind.wrap .i64 (-n) = (c : Int) := by rw [wrap_i64 (by omega) (by omega)]; omega
            simp [bas, h8, na] at hK
            simp [veq_no h0, h6, h7, h8, hz]
            refine swapped_r hv fun Y => ?_
            simp
            refine backward_r (by rw [mp_size]; exact hb) ?_
            have sz : (rvB (mp oppF s)).size = s.size := by rw [rvB_size, mp_size]
            generalize rvB (mp oppF s) = b at hK sz
            simp [w1, w2]
            refine wLoop_up c (fun i fr L H' => (fr 0 = .str b ∧ fr 1 = .int .i64 (c : Int) ∧ fr 6 = .str (rep b i) ∧ fr 7 = .int .i64 i) ∧ L = [] ∧ H' = H ++ Y ∧ i ≤ c) ⟨by simp [rep_zero], rfl, rfl, by omega⟩ ?_
            rintro i hi fr L H' ⟨⟨f0, f1, f6, f7⟩, rfl, rfl, hle⟩
            by_cases hp : i < c
            · have hp' : ((i : Int) < (c : Int)) = True := eq_true (by omega)
              have hri : (rep b i).size ≤ 3600 := by rw [rep_size]; exact Nat.le_trans (Nat.mul_le_mul (show i ≤ 60 by omega) (show b.size ≤ 60 by omega)) (by omega)
              have ha := vadd_str (a := rep b i) (b := b) (by omega)
              rw [rep_succ] at ha
              simp (disch := omega) [f0, f1, f6, f7, hp', ha, wrap_i64]
              first | exact ⟨hp, hp⟩ | (and_intros <;> first | omega | rfl)
            · have hp' : ((i : Int) < (c : Int)) = False := eq_false (by omega)
              have : i = c := by omega
              subst this
              simp [f0, f1, f6, f7, hp']
              refine short_r ?_
              have := hK Y
              unfold ckdV at this ⊢
              split <;> rename_i hq
              · rw [if_pos hq] at this; simp; exact this
              · rw [if_neg hq] at this; simp; exact this
          · obtain ⟨c, rfl⟩ : ∃ c : Nat, n = (c : Int) := ⟨n.toNat, by omega⟩
            have hz' : ¬ c = 0 := by omega
            simp [bas, h8] at hK
            simp [veq_no h0, h6, h7, h8, hz']
            refine wLoop_up c (fun i fr L H' => (fr 0 = .str s ∧ fr 1 = .int .i64 (c : Int) ∧ fr 6 = .str (rep s i) ∧ fr 7 = .int .i64 i) ∧ L = [] ∧ H' = H ∧ i ≤ c) ⟨by simp [rep_zero], rfl, rfl, by omega⟩ ?_
            rintro i hi fr L H' ⟨⟨f0, f1, f6, f7⟩, rfl, rfl, hle⟩
            by_cases hp : i < c
            · have hp' : ((i : Int) < (c : Int)) = True := eq_true (by omega)
              have hri : (rep s i).size ≤ 3600 := by rw [rep_size]; exact Nat.le_trans (Nat.mul_le_mul (show i ≤ 60 by omega) hb) (by omega)
              have ha := vadd_str (a := rep s i) (b := s) (by omega)
              rw [rep_succ] at ha
              simp (disch := omega) [f0, f1, f6, f7, hp', ha, wrap_i64]
              first | exact ⟨hp, hp⟩ | (and_intros <;> first | omega | rfl)
            · have hp' : ((i : Int) < (c : Int)) = False := eq_false (by omega)
              have : i = c := by omega
              subst this
              simp [f0, f1, f6, f7, hp']
              refine short_r ?_
              have := hK []
              rw [List.append_nil] at this
              unfold ckdV at this ⊢
              split <;> rename_i hq
              · rw [if_pos hq] at this; simp; exact this
              · rw [if_neg hq] at this; simp; exact this
theorem pair_cases {v : V} (h : ∃ (t : ByteArray) (e : Int), v = .tup [.str t, .int .i64 e]) : ∃ (t : ByteArray) (e : Int), v = .tup [.str t, .int .i64 e] := h
theorem ckdV_pair {s : ByteArray} : ∃ (t : ByteArray) (e : Int), ckdV s = .tup [.str t, .int .i64 e] := by
  unfold ckdV; split <;> exact ⟨_, _, rfl⟩
theorem joinV_pair {u v : ByteArray} : ∃ (t : ByteArray) (e : Int), joinV u v = .tup [.str t, .int .i64 e] := by
  unfold joinV; split
  · exact ckdV_pair
  · exact ⟨_, _, rfl⟩
theorem powV_pair {s : ByteArray} {n : Int} : ∃ (t : ByteArray) (e : Int), powV s n = .tup [.str t, .int .i64 e] := by
  unfold powV
  repeat' split
  all_goals first | exact ckdV_pair | exact ⟨_, _, rfl⟩
theorem law_PlaitJoins {H : Hp} {lim : Nat} {u v : ByteArray} {n : Int} {K : V → Hp → Prop} (hH : HX glHp H) (hlim : lim ≤ H.length) (h1 : u.size ≤ maxLen) (h2 : v.size ≤ maxLen) (hn : I64 n) (hK : ∀ X, K (.bool true) (H ++ X)) : VCall tbl lim 4 [.str u, .str v, .int .i64 n] H K := by
  have hc := chk_of hH
  refine VCall_fn tbl_at4 rfl ?_
  simp [vf4]
  refine long_t ?_
  by_cases hu : 200 < u.size
  · simp [hu]
    exact known_t hc hlim fun X => by simp; exact hK X
  simp [hu]
  refine long_t ?_
  by_cases hw : 200 < v.size
  · simp [hw]
    exact known_t hc hlim fun X => by simp; exact hK X
  simp [hw]
  obtain ⟨t, e, hj⟩ := joinV_pair (u := u) (v := v)
  obtain ⟨t', e', hp⟩ := powV_pair (s := u) (n := n)
  refine join_t hlim fun X1 => ?_
  simp [hj]
  refine join_r (by omega) (by omega) ?_
  simp [hj]
  refine power_t (chk_app hc) (by simp; omega) hn fun X2 => ?_
  simp [hp]
  refine power_r (by omega) hn fun X3 => ?_
  simp [hp, veq_self]
  exact known_t (chk_app hc) (by simp; omega) fun W => by simp; exact hK _
end Go.Proofs.YtalejadhccgckaaDoor.Vm
