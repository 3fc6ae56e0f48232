/- The stable sort of entries over the machine: merging. -/
import Derived.Test.YtlkoedoannjojaaStA
namespace Go.Proofs.Ytlkoedoannjojaa.Vm
open Go
set_option maxRecDepth 100000
set_option linter.unusedSimpArgs false
set_option linter.unusedVariables false
attribute [-simp] List.getD_eq_getElem?_getD
theorem wrap_u64 {n : Int} (h1 : 0 ≤ n) (h2 : n ≤ 18446744073709551615) : IntKind.wrap .u64 n = n := by
  simp [IntKind.wrap, IntKind.bits, IntKind.signed]; omega
theorem vbin_shr1 {a : Int} {k' : IntKind} (h : 0 ≤ a) : vbin .shr (.int .u64 a) (.int k' 1) = some (.int .u64 (a / 2)) := by
  simp only [vbin, isShift, vshift, if_true]
  rw [if_neg (by omega)]
  have : (2 : Int) ^ (min (1 : Int).toNat (IntKind.u64.bits)) = 2 := by decide
  rw [this, Int.fdiv_eq_ediv_of_nonneg _ (by omega)]
/-- a loop that is left by one exit: what holds there -/
theorem wLoop_post {T : Tbl} {lim : Nat} {body : VCode} {Q : VExit → St → Prop} {s : St} (id : Nat) (P : Fr → Lo → Hp → Prop) (h : wCode T lim (.loop body) (fun e s => e = .exit id ∧ P s.fr s.L s.H) s) (hQ : ∀ fr L H, P fr L H → Q (.exit id) ⟨fr, L, H⟩) : wCode T lim (.loop body) Q s := by
  obtain ⟨n, e, s', h1, he, h2⟩ := h
  subst he
  exact ⟨n, _, s', h1, hQ _ _ _ h2⟩
section
variable {lim : Nat} {H : Hp} {K : V → Hp → Prop} {b : Nat} {g : FuncId} {l : List En} {cf : En → En → Int}
theorem front_en (hb : H[b]? = some (.row (enC.all l) true)) (hlim : lim ≤ b) (hc : CmpE g cf) (ho : Ordr cf) {x y : Nat} (hxy : x + 1 < y) (hy : y ≤ l.length) (hl : l.length ≤ 100000) (h2 : SortR cf (x + 1) y l)
    (hK : ∀ H' l', RowE b H l' H' → PermR x y l l' → SortR cf x y l' → K (.tup []) H') : VCall tbl lim 87 [.sl b 0 l.length 6, .int .i64 x, .int .i64 ((x + 1 : Nat) : Int), .int .i64 y, .func (.func g) [] []] H K := by
  refine VCall_fn tbl_at87 rfl ?_
  have e1 : ((x : Int) + 1 - (x : Int)) = 1 := by omega
  simp (disch := omega) [vf87, wrap_i64, e1]
  refine wLoop_post 0 (fun fr L H' => ∃ i : Nat, (fr 0 = .sl b 0 l.length 6 ∧ fr 1 = .int .i64 x ∧ fr 10 = .int .i64 i) ∧ L = [] ∧ RowE b H l H' ∧ (x + 1 ≤ i ∧ i ≤ y) ∧ (x + 1 < i → cf (l.getD (i - 1) default) (l.getD x default) < 0) ∧ (i < y → leC cf (l.getD x default) (l.getD i default))) ?_ ?_
  · refine wLoop_m (n := y - (x + 1)) (fun k fr L H' => ∃ i j : Nat, (fr 0 = .sl b 0 l.length 6 ∧ fr 1 = .int .i64 x ∧ fr 4 = .func (.func g) [] [] ∧ fr 10 = .int .i64 i ∧ fr 11 = .int .i64 j) ∧ L = [] ∧ RowE b H l H' ∧ (x + 1 ≤ i ∧ i ≤ j ∧ j ≤ y) ∧ (x + 1 < i → cf (l.getD (i - 1) default) (l.getD x default) < 0) ∧ (j < y → leC cf (l.getD x default) (l.getD j default)) ∧ k = j - i) ⟨x + 1, y, by simp, rfl, RowE.refl hb, by omega, fun h => by omega, fun h => by omega, rfl⟩ ?_
    rintro k fr L H' ⟨i, j, ⟨f0, f1, f4, f10, f11⟩, rfl, hr, hij, hlo, hhi, hk⟩
    simp [f0, f1, f4, f10, f11]
    by_cases h : i < j
    · have e2 : ((i : Int) + (j : Int)) / 2 = (((i + j) / 2 : Nat) : Int) := by omega
      generalize hm : (i + j) / 2 = m at e2
      have g1 := row_ld hr.row (i := m) (by omega) (L := [])
      have g2 := row_ld hr.row (i := x) (by omega) (L := [])
      simp (disch := omega) [f0, f1, f4, f10, f11, h, show (i : Int) < j by omega, wrap_i64, wrap_u64, vbin_shr1, e2, g1, g2, -vload_ptrO]
      refine hc _ _ (l.getD m default) (l.getD x default) _ fun H2 x2 => ?_
      have hr2 := hr.grow x2
      simp
      refine cond_dec (fun hlt => ?_) fun hlt => ?_
      · simp (disch := omega) [f0, f1, f4, f10, f11, wrap_i64]
        exact ⟨j - (m + 1), by omega, m + 1, j, by omega, hr2, by omega, fun _ => hlt, hhi, rfl⟩
      · simp (disch := omega) [f0, f1, f4, f10, f11, wrap_i64]
        exact ⟨m - i, by omega, i, m, by omega, hr2, by omega, hlo, fun _ => hlt, rfl⟩
    · have : i = j := by omega
      subst this
      simp [f0, f1, f4, f10, f11]
      exact ⟨i, by omega, hr, by omega, hlo, hhi⟩
  · rintro fr L H' ⟨i, ⟨f0, f1, f10⟩, rfl, hr, hi, hlo, hhi⟩
    simp (disch := omega) [f0, f1, f10, wrap_i64]
    refine wLoop_up (i - (x + 1)) (fun t fr L H' => (fr 0 = .sl b 0 l.length 6 ∧ fr 10 = .int .i64 i ∧ fr 13 = .int .i64 ((x + t : Nat) : Int)) ∧ L = [] ∧ RowE b H (shU l x t) H') ⟨by simp [f0, f10], rfl, hr⟩ ?_
    clear f0 f1 f10
    rintro t ht0 fr L H' ⟨⟨f0, f10, f13⟩, rfl, hr⟩
    have hlen : (shU l x t).length = l.length := shU_len
    simp (disch := omega) [f0, f10, f13, wrap_i64]
    refine cond_dec (fun ht => ?_) fun hfl => ?_
    · have ht : t < i - (x + 1) := by omega
      have e1 : ((x : Int) + (t : Int)).toNat = x + t := by omega
      have e2 : ((x : Int) + (t : Int) + 1).toNat = x + t + 1 := by omega
      have g1 := row_ld hr.row (i := x + t) (by omega) (L := [])
      have g2 := row_ld hr.row (i := x + t + 1) (by omega) (L := [])
      have w1 := row_st hr.row hlim (i := x + t) (by omega) (L := []) ((shU l x t).getD (x + t + 1) default)
      have hr3 := hr.set (l' := (shU l x t).set (x + t) ((shU l x t).getD (x + t + 1) default))
      have w2 := row_st hr3.row hlim (i := x + t + 1) (by simp; omega) (L := []) ((shU l x t).getD (x + t) default)
      have hr4 := hr3.set (l' := shU l x (t + 1))
      simp (disch := omega) [f0, f10, f13, wrap_i64, e1, e2, g1, g2, w1, w2, -vstore, -vload_ptrO]
      first | exact ⟨by omega, by omega, hr.set (l' := shU l x (t + 1))⟩ | exact ⟨by omega, by omega, hr4⟩
    have : t = i - (x + 1) := by omega
    subst this
    simp
    exact hK _ _ hr (shU_perm (Nat.le_refl _) (by omega) hy) (sort_front ho h2 hi hlo hhi (shU_rot (by omega) (by omega)))
theorem back_en (hb : H[b]? = some (.row (enC.all l) true)) (hlim : lim ≤ b) (hc : CmpE g cf) (ho : Ordr cf) {x m : Nat} (hxm : x + 1 < m) (hy : m + 1 ≤ l.length) (hl : l.length ≤ 100000) (h1 : SortR cf x m l)
    (hK : ∀ H' l', RowE b H l' H' → PermR x (m + 1) l l' → SortR cf x (m + 1) l' → K (.tup []) H') : VCall tbl lim 87 [.sl b 0 l.length 6, .int .i64 x, .int .i64 m, .int .i64 ((m + 1 : Nat) : Int), .func (.func g) [] []] H K := by
  refine VCall_fn tbl_at87 rfl ?_
  have e1 : ¬ (m : Int) - (x : Int) = 1 := by omega
  have e1' : (m : Int) + 1 - (m : Int) = 1 := by omega
  simp (disch := omega) [vf87, wrap_i64, eq_false e1, e1']
  refine wLoop_post 4 (fun fr L H' => ∃ i : Nat, (fr 0 = .sl b 0 l.length 6 ∧ fr 2 = .int .i64 m ∧ fr 14 = .int .i64 i) ∧ L = [] ∧ RowE b H l H' ∧ (x ≤ i ∧ i ≤ m) ∧ (x < i → leC cf (l.getD (i - 1) default) (l.getD m default)) ∧ (i < m → cf (l.getD m default) (l.getD i default) < 0)) ?_ ?_
  · refine wLoop_m (n := m - x) (fun k fr L H' => ∃ i j : Nat, (fr 0 = .sl b 0 l.length 6 ∧ fr 2 = .int .i64 m ∧ fr 4 = .func (.func g) [] [] ∧ fr 14 = .int .i64 i ∧ fr 15 = .int .i64 j) ∧ L = [] ∧ RowE b H l H' ∧ (x ≤ i ∧ i ≤ j ∧ j ≤ m) ∧ (x < i → leC cf (l.getD (i - 1) default) (l.getD m default)) ∧ (j < m → cf (l.getD m default) (l.getD j default) < 0) ∧ k = j - i) ⟨x, m, by simp, rfl, RowE.refl hb, by omega, fun h => by omega, fun h => by omega, rfl⟩ ?_
    rintro k fr L H' ⟨i, j, ⟨f0, f2, f4, f14, f15⟩, rfl, hr, hij, hlo, hhi, hk⟩
    simp [f0, f2, f4, f14, f15]
    by_cases h : i < j
    · have e2 : ((i : Int) + (j : Int)) / 2 = (((i + j) / 2 : Nat) : Int) := by omega
      generalize hm : (i + j) / 2 = q at e2
      have g1 := row_ld hr.row (i := m) (by omega) (L := [])
      have g2 := row_ld hr.row (i := q) (by omega) (L := [])
      simp (disch := omega) [f0, f2, f4, f14, f15, h, show (i : Int) < j by omega, wrap_i64, wrap_u64, vbin_shr1, e2, g1, g2, -vload_ptrO]
      refine hc _ _ (l.getD m default) (l.getD q default) _ fun H2 x2 => ?_
      have hr2 := hr.grow x2
      simp
      by_cases hlt : cf (l.getD m default) (l.getD q default) < 0
      · simp (disch := omega) [f0, f2, f4, f14, f15, wrap_i64, hlt]
        exact ⟨q - i, by omega, i, q, by omega, hr2, by omega, hlo, fun _ => hlt, rfl⟩
      · simp (disch := omega) [f0, f2, f4, f14, f15, wrap_i64, hlt]
        exact ⟨j - (q + 1), by omega, q + 1, j, by omega, hr2, by omega, fun _ => hlt, hhi, rfl⟩
    · have : i = j := by omega
      subst this
      simp [f0, f2, f4, f14, f15]
      exact ⟨i, by omega, hr, by omega, hlo, hhi⟩
  · rintro fr L H' ⟨i, ⟨f0, f2, f14⟩, rfl, hr, hi, hlo, hhi⟩
    simp (disch := omega) [f0, f2, f14, wrap_i64]
    refine wLoop_up (m - i) (fun t fr L H' => (fr 0 = .sl b 0 l.length 6 ∧ fr 14 = .int .i64 i ∧ fr 17 = .int .i64 ((m - t : Nat) : Int)) ∧ L = [] ∧ RowE b H (shD l m t) H') ⟨by simp [f0, f14], rfl, hr⟩ ?_
    clear f0 f2 f14
    rintro t ht0 fr L H' ⟨⟨f0, f14, f17⟩, rfl, hr⟩
    have hlen : (shD l m t).length = l.length := shD_len
    simp (disch := omega) [f0, f14, f17, wrap_i64]
    refine cond_dec (fun ht => ?_) fun hfl => ?_
    · have g1 := row_ld hr.row (i := m - t) (by omega) (L := [])
      have g2 := row_ld hr.row (i := m - t - 1) (by omega) (L := [])
      have w1 := row_st hr.row hlim (i := m - t) (by omega) (L := []) ((shD l m t).getD (m - t - 1) default)
      have hr3 := hr.set (l' := (shD l m t).set (m - t) ((shD l m t).getD (m - t - 1) default))
      have w2 := row_st hr3.row hlim (i := m - t - 1) (by simp; omega) (L := []) ((shD l m t).getD (m - t) default)
      have hr4 := hr3.set (l' := shD l m (t + 1))
      have hr5 := hr.set (l' := shD l m (t + 1))
      have hs : shD l m (t + 1) = ((shD l m t).set (m - t) ((shD l m t).getD (m - t - 1) default)).set (m - t - 1) ((shD l m t).getD (m - t) default) := rfl
      rw [hs] at hr4 hr5
      generalize hq : m - t = q at *
      have hq1 : 1 ≤ q := by omega
      have e3 : ((q : Int) - 1).toNat = q - 1 := by omega
      simp (disch := omega) [f0, f14, f17, wrap_i64, e3, g1, g2, w1, w2, -vstore, -vload_ptrO]
      rw [hs]
      first | exact ⟨by omega, by omega, hr5⟩ | exact ⟨by omega, by omega, hr4⟩
    have : t = m - i := by omega
    subst this
    simp
    exact hK _ _ hr (shD_perm (by omega) hy (by omega)) (sort_back ho h1 hi hlo hhi (shD_rot (by omega) (by omega)))
end
end Go.Proofs.Ytlkoedoannjojaa.Vm
