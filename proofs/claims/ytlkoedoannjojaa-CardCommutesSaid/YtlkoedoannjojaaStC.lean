/- The stable sort of entries over the machine: merging, the sort, card.put. -/
import Derived.Test.YtlkoedoannjojaaStB
namespace Go.Proofs.Ytlkoedoannjojaa.Vm
open Go
set_option maxRecDepth 100000
set_option linter.unusedSimpArgs false
set_option linter.unusedVariables false
attribute [-simp] List.getD_eq_getElem?_getD
section
variable {b : Nat} {g : FuncId} {cf : En → En → Int}
theorem symMerge_en (hc : CmpE g cf) (ho : Ordr cf) : ∀ (N : Nat) {lim : Nat} {H : Hp} {K : V → Hp → Prop} {l : List En} {x m y : Nat}, y - x ≤ N → H[b]? = some (.row (enC.all l) true) → lim ≤ b → x < m ∧ m < y → y ≤ l.length → l.length ≤ 100000 → SortR cf x m l → SortR cf m y l →
    (∀ H' l', RowE b H l' H' → PermR x y l l' → SortR cf x y l' → K (.tup []) H') → VCall tbl lim 87 [.sl b 0 l.length 6, .int .i64 x, .int .i64 m, .int .i64 y, .func (.func g) [] []] H K := by
  intro N
  induction N with
  | zero => intro lim H K l x m y hN hb hlim hxy; omega
  | succ N ih =>
    intro lim H K l x m y hN hb hlim hxy hy hl h1 h2 hK
    by_cases hm1 : x + 1 = m
    · subst hm1
      exact front_en hb hlim hc ho hxy.2 hy hl h2 hK
    by_cases hm2 : m + 1 = y
    · subst hm2
      exact back_en hb hlim hc ho (by omega) hy hl h1 hK
    refine VCall_fn tbl_at87 rfl ?_
    have hd : 2 * ((x + y) / 2) ≤ x + y ∧ x + y ≤ 2 * ((x + y) / 2) + 1 := by omega
    have e0 : ((x : Int) + (y : Int)) / 2 = (((x + y) / 2 : Nat) : Int) := by omega
    have hbox := fun s => SymS.box (cf := cf) (l := l) (s := s) hxy
    have hturn := fun s l' => sym_turn (l := l) (l' := l') (s := s) ho hxy h1 h2
    generalize (x + y) / 2 = mid at hd e0 hbox hturn
    have e1 : ¬ (m : Int) - (x : Int) = 1 := by omega
    have e2 : ¬ (y : Int) - (m : Int) = 1 := by omega
    simp (disch := omega) [vf87, wrap_i64, wrap_u64, vbin_shr1, eq_false e1, eq_false e2, e0]
    refine cond_dec (fun hmid => ?_) fun hmid => ?_
    simp (disch := omega) [wrap_i64]
    rotate_left
    simp (disch := omega) [wrap_i64]
    all_goals
      refine wLoop_post 8 (fun fr L H' => ∃ s : Nat, (fr 0 = .sl b 0 l.length 6 ∧ fr 1 = .int .i64 x ∧ fr 2 = .int .i64 m ∧ fr 3 = .int .i64 y ∧ fr 4 = .func (.func g) [] [] ∧ fr 18 = .int .i64 mid ∧ fr 19 = .int .i64 ((mid + m : Nat) : Int) ∧ fr 20 = .int .i64 s) ∧ L = [] ∧ RowE b H l H' ∧ SymS cf l (mid + m) (if mid < m then mid + m - y else x) (if mid < m then mid else m) s) ?_ ?_
      focus
        have hlh : (if mid < m then mid + m - y else x) ≤ (if mid < m then mid else m) ∧ (if mid < m then mid else m) ≤ m ∧ mid + m ≤ y + (if mid < m then mid + m - y else x) ∧ (if mid < m then mid else m) ≤ mid := by split <;> omega
        refine wLoop_m (n := m) (fun k fr L H' => ∃ i j : Nat, (fr 0 = .sl b 0 l.length 6 ∧ fr 1 = .int .i64 x ∧ fr 2 = .int .i64 m ∧ fr 3 = .int .i64 y ∧ fr 4 = .func (.func g) [] [] ∧ fr 18 = .int .i64 mid ∧ fr 19 = .int .i64 ((mid + m : Nat) : Int) ∧ fr 20 = .int .i64 i ∧ fr 21 = .int .i64 j ∧ fr 22 = .int .i64 ((mid + m - 1 : Nat) : Int)) ∧ L = [] ∧ RowE b H l H' ∧ ((if mid < m then mid + m - y else x) ≤ i ∧ i ≤ j ∧ j ≤ (if mid < m then mid else m)) ∧ ((if mid < m then mid + m - y else x) < i → leC cf (l.getD (i - 1) default) (l.getD (mid + m - i) default)) ∧ (j < (if mid < m then mid else m) → cf (l.getD (mid + m - 1 - j) default) (l.getD j default) < 0) ∧ j - i ≤ k) ⟨(if mid < m then mid + m - y else x), (if mid < m then mid else m), by simp [hmid]; omega, rfl, RowE.refl hb, ⟨Nat.le_refl _, hlh.1, Nat.le_refl _⟩, fun h => absurd h (Nat.lt_irrefl _), fun h => absurd h (Nat.lt_irrefl _), by omega⟩ ?_
        generalize (if mid < m then mid + m - y else x) = lo at hlh ⊢
        generalize (if mid < m then mid else m) = hi at hlh ⊢
        rintro k fr L H' ⟨i, j, ⟨f0, f1, f2, f3, f4, f18, f19, f20, f21, f22⟩, rfl, hr, hij, hlo, hhi, hk⟩
        simp [f0, f1, f2, f3, f4, f18, f19, f20, f21, f22]
        by_cases h : i < j
        · have e2 : ((i : Int) + (j : Int)) / 2 = (((i + j) / 2 : Nat) : Int) := by omega
          generalize hm : (i + j) / 2 = q at e2
          have hq : i ≤ q ∧ q < j := by omega
          have e3 : ((mid + m - 1 : Nat) : Int) - (q : Int) = ((mid + m - 1 - q : Nat) : Int) := by omega
          have g1 := row_ld hr.row (i := mid + m - 1 - q) (by omega) (L := [])
          have g2 := row_ld hr.row (i := q) (by omega) (L := [])
          simp (disch := omega) [f0, f1, f2, f3, f4, f18, f19, f20, f21, f22, h, show (i : Int) < j by omega, wrap_i64, wrap_u64, vbin_shr1, e2, e3, g1, g2, -vload_ptrO]
          refine hc _ _ (l.getD (mid + m - 1 - q) default) (l.getD q default) _ fun H2 x2 => ?_
          have hr2 := hr.grow x2
          simp
          by_cases hlt : cf (l.getD (mid + m - 1 - q) default) (l.getD q default) < 0
          · simp (disch := omega) [f0, f1, f2, f3, f4, f18, f19, f20, f21, f22, wrap_i64, hlt]
            exact ⟨q - i, by omega, i, q, by omega, hr2, by omega, hlo, fun _ => hlt, by omega⟩
          · simp (disch := omega) [f0, f1, f2, f3, f4, f18, f19, f20, f21, f22, wrap_i64, hlt]
            refine ⟨j - (q + 1), by omega, q + 1, j, by omega, hr2, by omega, fun _ => ?_, hhi, by omega⟩
            rw [show mid + m - (q + 1) = mid + m - 1 - q by omega]; exact hlt
        · have : i = j := by omega
          subst this
          simp [f0, f1, f2, f3, f4, f18, f19, f20, f21, f22]
          exact ⟨i, by omega, hr, ⟨by omega, hlo, hhi⟩⟩
      rintro fr L H' ⟨s, ⟨f0, f1, f2, f3, f4, f18, f19, f20⟩, rfl, hr, hS⟩
      have B := hbox s hS
      have T := hturn s
      clear hbox hturn
      obtain ⟨E, hE⟩ : ∃ E, E = mid + m - s := ⟨_, rfl⟩
      have e4 : (mid : Int) + (m : Int) - (s : Int) = (E : Int) := by omega
      rw [← hE] at B T
      simp (disch := omega) [f0, f1, f2, f3, f4, f18, f19, f20, wrap_i64, e4]
      refine cond_bool (fun hrot => ?_) (fun hrot => ?_)
      simp only [Bool.and_eq_true, decide_eq_true_eq] at hrot
      simp (disch := omega) [f0, f1, f2, f3, f4, f18, f19, f20, wrap_i64]
      refine rotate_en hr.row hlim (x := s) (m := m) (y := E) rfl (by omega) (by omega) (by omega) hl fun H1 l1 hr1 hp1 hR => ?_
      replace hr1 := hr.trans hr1
      replace hp1 := hp1.wide (x := x) (y := y) (by omega) (by omega)
      simp (disch := omega) [f0, f1, f2, f3, f4, f18, f19, f20, wrap_i64]
      rotate_left
      simp only [Bool.and_eq_false_iff, decide_eq_false_iff_not] at hrot
      simp (disch := omega) [f0, f1, f2, f3, f4, f18, f19, f20, wrap_i64]
      obtain ⟨l1, hr1, hp1, hR⟩ : ∃ l1, RowE b H l1 H' ∧ PermR x y l l1 ∧ RotR s m E l l1 := ⟨l, hr, PermR.refl, RotR.same (by omega)⟩
      all_goals
        obtain ⟨-, s1, s2, s3, s4, cross⟩ := T l1 hS hR
        clear T hR
        have hlen1 := hp1.len
        refine cond_bool (fun hc1 => ?_) (fun hc1 => ?_)
        simp only [Bool.and_eq_true, decide_eq_true_eq] at hc1
        simp (disch := omega) [f0, f1, f2, f3, f4, f18, f19, f20, wrap_i64]
        rw [← hlen1]
        refine ih (x := x) (m := s) (y := mid) (by omega) hr1.row hlim (by omega) (by omega) (by omega) s1 s2 fun H2 l2 hr2 hp2 hs2 => ?_
        replace hr2 := hr1.trans hr2
        simp (disch := omega) [f0, f1, f2, f3, f4, f18, f19, f20, wrap_i64]
        rotate_left
        simp only [Bool.and_eq_false_iff, decide_eq_false_iff_not] at hc1
        simp (disch := omega) [f0, f1, f2, f3, f4, f18, f19, f20, wrap_i64]
        obtain ⟨l2, hr2, hp2, hs2⟩ : ∃ l2, RowE b H l2 _ ∧ PermR x mid l1 l2 ∧ SortR cf x mid l2 := ⟨l1, hr1, PermR.refl, by
          by_cases h : x < s
          · rw [show mid = s by omega]; exact s1
          · rw [show x = s by omega]; exact s2⟩
        all_goals
          have hlen2 := hp2.len
          have k2 : ∀ k, mid ≤ k ∧ k < y → l2.getD k default = l1.getD k default := fun k hk => hp2.out k (by omega)
          have t3 : SortR cf mid E l2 := s3.keep fun k hk => k2 k (by omega)
          have t4 : SortR cf E y l2 := s4.keep fun k hk => k2 k (by omega)
          have fin : ∀ H3 l3, RowE b H l3 H3 → PermR mid y l2 l3 → SortR cf mid y l3 → K (.tup []) H3 := fun H3 l3 hr3 hp3 hs3 => by
            refine hK _ _ hr3 (hp1.trans ((hp2.wide (Nat.le_refl _) (by omega)).trans (hp3.wide (by omega) (Nat.le_refl _)))) (SortR.join (l := l1) (l' := l3) (m := mid) (by omega) (by omega) cross (fun k hk => ?_) (fun k hk => ?_) (hs2.keep fun k hk => hp3.out k (by omega)) hs3)
            · obtain ⟨k', h1', h2'⟩ := hp2.mem (by omega) hk
              exact ⟨k', h1', by rw [hp3.out k (by omega), h2']⟩
            · obtain ⟨k', h1', h2'⟩ := hp3.mem (by omega) hk
              exact ⟨k', h1', by rw [h2', k2 k' h1']⟩
          refine cond_bool (fun hc2 => ?_) (fun hc2 => ?_)
          simp only [Bool.and_eq_true, decide_eq_true_eq] at hc2
          simp (disch := omega) [f0, f1, f2, f3, f4, f18, f19, f20, wrap_i64]
          rw [← hlen1, ← hlen2]
          refine ih (x := mid) (m := E) (y := y) (by omega) hr2.row hlim (by omega) (by omega) (by omega) t3 t4 fun H3 l3 hr3 hp3 hs3 => ?_
          simp
          exact fin _ _ (hr2.trans hr3) hp3 hs3
          simp only [Bool.and_eq_false_iff, decide_eq_false_iff_not] at hc2
          simp
          refine fin _ l2 hr2 PermR.refl ?_
          by_cases h : mid < E
          · rw [show y = E by omega]; exact t3
          · rw [show mid = E by omega]; exact t4
theorem stable_en {lim : Nat} {H : Hp} {K : V → Hp → Prop} {l : List En} (hb : H[b]? = some (.row (enC.all l) true)) (hlim : lim ≤ b) (hc : CmpE g cf) (ho : Ordr cf) (hl : l.length ≤ 10000)
    (hK : ∀ H' l', RowE b H l' H' → PermR 0 l.length l l' → SortR cf 0 l.length l' → K (.tup []) H') : VCall tbl lim 67 [.sl b 0 l.length 6, .func (.func g) [] []] H K := by
  refine VCall_fn tbl_at67 rfl ?_
  simp [vf67]
  refine VCall_fn tbl_at75 rfl ?_
  simp [vf75]
  refine wLoop_m (n := l.length) (fun k fr L H' => ∃ (a : Nat) (l' : List En), (fr 0 = .sl b 0 l.length 6 ∧ fr 1 = .int .i64 l.length ∧ fr 2 = .func (.func g) [] [] ∧ fr 6 = .int .i64 20 ∧ fr 7 = .int .i64 a ∧ fr 8 = .int .i64 ((a + 20 : Nat) : Int)) ∧ L = [] ∧ RowE b H l' H' ∧ PermR 0 l.length l l' ∧ Pr cf l' 20 0 a ∧ a ≤ l.length ∧ k = l.length - a) ⟨0, l, by simp, rfl, RowE.refl hb, PermR.refl, .nil, by omega, rfl⟩ ?_
  rintro k fr L H1 ⟨a, l1, ⟨f0, f1, f2, f6, f7, f8⟩, rfl, hr1, hp1, hpr, ha, hk⟩
  have hlen1 := hp1.len
  simp [f0, f1, f2, f6, f7, f8]
  refine cond_dec (fun ht => ?_) fun hfl => ?_
  · simp (disch := omega) [f0, f1, f2, f6, f7, f8, wrap_i64]
    rw [← hlen1]
    refine isort_en hr1.row hlim hc ho (a := a) (e := a + 20) (by omega) (by omega) fun H2 l2 hr2 hp2 hs2 => ?_
    simp (disch := omega) [f0, f1, f2, f6, f7, f8, wrap_i64]
    exact ⟨l.length - (a + 20), by omega, a + 20, by omega, l2, hr1.trans hr2, by rw [hlen1]; exact hp1.trans (hp2.wide (by omega) (by omega)), .snoc (hpr.keep fun k hk => hp2.out k (by omega)) hs2, by omega, by omega⟩
  · simp (disch := omega) [f0, f1, f2, f6, f7, f8, wrap_i64]
    rw [← hlen1]
    refine isort_en hr1.row hlim hc ho (a := a) (e := l1.length) (by omega) (by omega) fun H2 l2 hr2 hp2 hs2 => ?_
    have hrn : Rn cf l2 20 l.length 0 := (hpr.keep fun k hk => hp2.out k (by omega)).glue (.last (by omega) (by rw [← hlen1]; exact hs2)) ha
    have hp02 : PermR 0 l.length l l2 := hp1.trans (hp2.wide (by omega) (by omega))
    replace hr2 := hr1.trans hr2
    simp
    refine wLoop_m (n := 2 * l.length) (fun k fr L H' => ∃ (w : Nat) (l' : List En), (fr 0 = .sl b 0 l.length 6 ∧ fr 1 = .int .i64 l.length ∧ fr 2 = .func (.func g) [] [] ∧ fr 6 = .int .i64 w) ∧ L = [] ∧ RowE b H l' H' ∧ PermR 0 l.length l l' ∧ Rn cf l' w l.length 0 ∧ (0 < w ∧ w ≤ 2 * l.length + 20) ∧ 2 * l.length + 20 ≤ k + w) ⟨20, l2, by simp [f0, f1, f2, f6, hlen1], rfl, hr2, hp02, hrn, by omega, by omega⟩ ?_
    clear f0 f1 f2 f6 f7 f8 hr1 hp1 hpr hp2 hs2 hr2 hrn hp02 hlen1
    rintro k fr L H3 ⟨w, l3, ⟨f0, f1, f2, f6⟩, rfl, hr3, hp3, hrn, hw, hk⟩
    have hlen3 := hp3.len
    simp [f0, f1, f2, f6]
    refine cond_dec (fun ht => ?_) fun hfl => ?_
    · simp (disch := omega) [f0, f1, f2, f6, wrap_i64]
      refine wLoop_m (n := l.length) (fun k fr L H' => ∃ (a : Nat) (l' : List En), (fr 0 = .sl b 0 l.length 6 ∧ fr 1 = .int .i64 l.length ∧ fr 2 = .func (.func g) [] [] ∧ fr 6 = .int .i64 w ∧ fr 7 = .int .i64 a ∧ fr 8 = .int .i64 ((a + 2 * w : Nat) : Int)) ∧ L = [] ∧ RowE b H l' H' ∧ PermR 0 l.length l l' ∧ Pr cf l' (2 * w) 0 a ∧ Rn cf l' w l.length a ∧ a ≤ l.length ∧ l.length ≤ k + a) ⟨0, l3, by simp [f0, f1, f2, f6], rfl, hr3, hp3, .nil, hrn, by omega, by omega⟩ ?_
      clear f0 f1 f2 f6 hr3 hp3 hrn hlen3
      rintro k4 fr L H4 ⟨a, l4, ⟨f0, f1, f2, f6, f7, f8⟩, rfl, hr4, hp4, hpr, hrn, ha, hk4⟩
      have hlen4 := hp4.len
      simp [f0, f1, f2, f6, f7, f8]
      refine cond_dec (fun ht2 => ?_) fun hfl2 => ?_
      · have h2w : a + 2 * w ≤ l.length := by omega
        obtain ⟨s1, s2, r3⟩ := hrn.two hw.1 h2w
        have e1 : (a : Int) + (w : Int) = ((a + w : Nat) : Int) := by omega
        have e2 : (a : Int) + 2 * (w : Int) = ((a + 2 * w : Nat) : Int) := by omega
        simp (disch := omega) [f0, f1, f2, f6, f7, f8, wrap_i64]
        rw [e1, e2, ← hlen4]
        refine symMerge_en hc ho _ (x := a) (m := a + w) (y := a + 2 * w) (Nat.le_refl _) hr4.row hlim (by omega) (by omega) (by omega) s1 s2 fun H5 l5 hr5 hp5 hs5 => ?_
        simp (disch := omega) [f0, f1, f2, f6, f7, f8, wrap_i64]
        exact ⟨l.length - (a + 2 * w), by omega, a + 2 * w, by omega, l5, hr4.trans hr5, by rw [hlen4]; exact hp4.trans (hp5.wide (by omega) h2w), .snoc (hpr.keep fun k hk => hp5.out k (by omega)) hs5, by rw [hlen4]; exact r3.keep fun k hk => hp5.out k (by omega), by omega, by omega⟩
      · have h2w : l.length < a + 2 * w := by omega
        have fin : ∀ H5 l5, RowE b H l5 H5 → PermR a l.length l4 l5 → SortR cf a l.length l5 → RowE b H l5 H5 ∧ PermR 0 l.length l l5 ∧ Rn cf l5 (2 * w) l.length 0 := fun H5 l5 hr5 hp5 hs5 =>
          ⟨hr5, hp4.trans (hp5.wide (by omega) (Nat.le_refl _)), (hpr.keep fun k hk => hp5.out k (by omega)).glue (.last (by omega) hs5) ha⟩
        have e1 : (a : Int) + (w : Int) = ((a + w : Nat) : Int) := by omega
        simp (disch := omega) [f0, f1, f2, f6, f7, f8, wrap_i64]
        refine cond_dec (fun hm => ?_) fun hm => ?_
        · obtain ⟨s1, s2⟩ := hrn.end2 h2w (by omega)
          simp (disch := omega) [f0, f1, f2, f6, f7, f8, wrap_i64]
          rw [e1, ← hlen4]
          rw [← hlen4] at s2
          refine symMerge_en hc ho _ (x := a) (m := a + w) (y := l4.length) (Nat.le_refl _) hr4.row hlim (by omega) (by omega) (by omega) s1 s2 fun H5 l5 hr5 hp5 hs5 => ?_
          rw [hlen4] at hp5 hs5
          obtain ⟨q1, q2, q3⟩ := fin _ _ (hr4.trans hr5) hp5 hs5
          simp (disch := omega) [f0, f1, f2, f6, f7, f8, wrap_i64]
          rw [hlen4]
          exact ⟨2 * l.length + 20 - 2 * w, by omega, w * 2, by omega, l5, q1, q2, by rw [Nat.mul_comm]; exact q3, by omega, by omega⟩
        · obtain ⟨q1, q2, q3⟩ := fin _ _ hr4 PermR.refl (hrn.end1 (by omega))
          simp (disch := omega) [f0, f1, f2, f6, f7, f8, wrap_i64]
          exact ⟨2 * l.length + 20 - 2 * w, by omega, w * 2, by omega, l4, q1, q2, by rw [Nat.mul_comm]; exact q3, by omega, by omega⟩
    · simp
      exact hK _ _ hr3 hp3 (hrn.end1 (by omega))
end
end Go.Proofs.Ytlkoedoannjojaa.Vm
