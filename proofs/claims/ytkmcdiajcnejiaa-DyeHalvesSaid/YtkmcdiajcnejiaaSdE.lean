/- Quicksort over the machine (api.Part): patterns, pivots, the whole. -/
import Derived.Test.YtkmcdiajcnejiaaSdD
namespace Go.Proofs.Ytkmcdiajcnejiaa.Vm
open Go
set_option maxRecDepth 100000
set_option maxHeartbeats 1000000
set_option linter.unusedSimpArgs false
set_option linter.unusedVariables false
attribute [-simp] List.getD_eq_getElem?_getD
theorem and_lt {x : Int} {m : Nat} (hm : 0 < m ∧ m < 1000) : ∃ o : Nat, o < m ∧ vbin .and (.int .u64 x) (.int .u64 ((m : Int) - 1)) = some (.int .u64 o) := by
  have h2 : (BitVec.ofInt 64 ((m : Int) - 1)).toNat = m - 1 := by
    rw [BitVec.toNat_ofInt]; omega
  have h1 : (BitVec.ofInt 64 x &&& BitVec.ofInt 64 ((m : Int) - 1)).toNat ≤ m - 1 := by
    rw [BitVec.toNat_and, h2]; exact Nat.and_le_right
  refine ⟨(BitVec.ofInt 64 x &&& BitVec.ofInt 64 ((m : Int) - 1)).toNat, by omega, ?_⟩
  rw [vbin_and]
  have : IntKind.wrap .u64 (((BitVec.ofInt (IntKind.bits .u64) x &&& BitVec.ofInt (IntKind.bits .u64) ((m : Int) - 1)).toNat : Nat) : Int) = ((BitVec.ofInt 64 x &&& BitVec.ofInt 64 ((m : Int) - 1)).toNat : Nat) := by
    show IntKind.wrap .u64 (((BitVec.ofInt 64 x &&& BitVec.ofInt 64 ((m : Int) - 1)).toNat : Nat) : Int) = _
    generalize (BitVec.ofInt 64 x &&& BitVec.ofInt 64 ((m : Int) - 1)).toNat = o at *
    simp [IntKind.wrap, IntKind.bits, IntKind.signed]; omega
  rw [this]
theorem wrap_u64 {n : Int} (h : 0 ≤ n ∧ n < 1000000) : IntKind.wrap .u64 n = n := by
  simp [IntKind.wrap, IntKind.bits, IntKind.signed]; omega
section
variable {lim : Nat} {H H0 : Hp} {K : V → Hp → Prop} {b g : Nat} {l l0 : List EQ} {cf : EQ → EQ → Int} {fs cs : List V}
theorem sq_break (hs : SqS b H0 l0 l H) (hlim : lim ≤ b) {a e : Nat} {f : V} (hf : stor f = true) (hae : a + 8 ≤ e ∧ e ≤ l0.length) (hl : l0.length < 256)
    (hK : ∀ H' l', SqS b H0 l0 l' H' → PermR a e l l' → K (.tup []) H') : VCall tbl lim 102 [.sl b 0 l0.length 4, .int .i64 a, .int .i64 e, f] H K := by
  refine VCall_fn tbl_at102 rfl ?_
  have hn := hs.n
  have hb := hs.blt
  have hle := hs.len
  obtain ⟨d, rfl⟩ : ∃ d, e = a + d := ⟨e - a, by omega⟩
  have e0 : (a : Int) + (d : Int) - (a : Int) = (d : Int) := by omega
  have e8 : ((8 : Int) ≤ (d : Int)) = True := eq_true (by omega)
  have eq4 : (d : Int).tdiv 4 = ((d / 4 : Nat) : Int) := tdiv_nat _ 4
  have hd4 : 2 * (d / 4) ≤ d / 2 ∧ 2 ≤ d / 4 ∧ 4 * (d / 4) ≤ d := by omega
  have wu : ∀ k : Nat, k < 256 → IntKind.wrap .u64 (k : Int) = k := fun k hk => wrap_u64 (by omega)
  have stn : ∀ L, vstore lim L (H ++ [Blk.row [V.int .u64 0] true]) (.ptr H.length 0) (.int .u64 d) 1 = some (L, H ++ [Blk.row [V.int .u64 d] true]) := fun L => by
    rw [su_st (r := .row [] true) (w := 0) (by simp) (by omega)]; simp
  simp (disch := omega) [vf102, wrap_i64, e0, e8, eq4, wu, stn, -vstore]
  have row1 : (H ++ [Blk.row [V.int .u64 d] true])[H.length]? = some (.row [.int .u64 d] true) := by simp
  have hs1 : SqS b H0 l0 l (H ++ [Blk.row [V.int .u64 d] true]) := hs.grow HX.push
  have hl1 : H.length < (H ++ [Blk.row [V.int .u64 d] true]).length := by simp
  generalize H ++ [Blk.row [V.int .u64 d] true] = H1 at *
  refine sq_pow (x := d) (by omega) (by omega) fun m hm1 hm2 => ?_
  simp (disch := omega) [wrap_i64, e0, e8, eq4]
  refine wLoop_up 3 (fun i fr L H' => ∃ l' w, (fr 0 = .sl b 0 l0.length 4 ∧ fr 1 = .int .i64 a ∧ fr 8 = .int .i64 d ∧ fr 9 = .ptr H.length 0 ∧ fr 10 = .int .u64 m ∧ fr 11 = .int .i64 ((a + (d / 4 * 2 - 1) + i : Nat) : Int)) ∧ L = [] ∧ SqS b H0 l0 l' H' ∧ H'[H.length]? = some (.row [.int .u64 w] true) ∧ PermR a (a + d) l l') ⟨l, d, by simp; omega, rfl, hs1, row1, PermR.refl⟩ ?_
  rintro i hi fr L H' ⟨l', w, ⟨f0, f1, f8, f9, f10, f11⟩, rfl, hr, hw, hp⟩
  have hlen := hp.len
  simp (disch := omega) [f0, f1, f8, f9, f10, f11, eq4, wrap_i64]
  refine cond_dec (fun ht => ?_) fun ht => ?_
  · have hi2 : i < 3 := by omega
    simp [f0, f1, f8, f9, f10, f11]
    refine sq_next hw (by omega) fun z => ?_
    have hr2 := hr.aside (s := H.length) (r := .row [.int .u64 z] true) hle
    have hw2 : (H'.set H.length (.row [.int .u64 z] true))[H.length]? = some (.row [.int .u64 z] true) := by
      rw [List.getElem?_set_self (List.getElem?_eq_some_iff.1 hw).1]
    generalize H'.set H.length (.row [.int .u64 z] true) = H2 at *
    obtain ⟨o, ho, hand⟩ := and_lt (x := z) (m := m) (by omega)
    have wm : IntKind.wrap .u64 ((m : Int) - 1) = (m : Int) - 1 := wrap_u64 (by omega)
    simp (disch := omega) [f0, f1, f8, f9, f10, f11, wm, hand, wrap_i64]
    refine wCond_join (fun fr L H' => ∃ o : Nat, (fr 0 = .sl b 0 l0.length 4 ∧ fr 1 = .int .i64 a ∧ fr 8 = .int .i64 d ∧ fr 9 = .ptr H.length 0 ∧ fr 10 = .int .u64 m ∧ fr 11 = .int .i64 ((a + (d / 4 * 2 - 1) + i : Nat) : Int) ∧ fr 12 = .int .i64 (o : Nat)) ∧ L = [] ∧ H' = H2 ∧ o < d) (fun h => ?_) (fun h => ?_) ?_
    · simp at h
      simp (disch := omega) [f0, f1, f8, f9, f10, f11, wrap_i64]
      exact ⟨o - d, by omega, by omega⟩
    · simp at h
      simp [f0, f1, f8, f9, f10, f11]
      exact ⟨o, rfl, by omega⟩
    clear f0 f1 f8 f9 f10 f11
    rintro fr L H3 ⟨q, ⟨f0, f1, f8, f9, f10, f11, f12⟩, rfl, rfl, hq⟩
    have e1 : ((a : Int) + ((d / 4 * 2 - 1 : Nat) : Int) + (i : Int)).toNat = a + (d / 4 * 2 - 1) + i := by omega
    have e2 : ((a : Int) + (q : Int)).toNat = a + q := by omega
    have g1 := fun L => sq_ld hr2.row (i := a + (d / 4 * 2 - 1) + i) (by omega) (L := L)
    have g2 := fun L => sq_ld hr2.row (i := a + q) (by omega) (L := L)
    have w1 := fun L => sq_w1 hr2 hlim (i := a + (d / 4 * 2 - 1) + i) (by omega) (L := L) (gE l' (a + q))
    have w2 := fun L => sq_w2 hr2 hlim (i := a + (d / 4 * 2 - 1) + i) (j := a + q) (by omega) (L := L)
    have hr5 := hr2.swap (i := a + (d / 4 * 2 - 1) + i) (j := a + q) (by omega) (by omega)
    have hps5 := hp.trans (swp_perm (l := l') (i := a + (d / 4 * 2 - 1) + i) (j := a + q) (a := a) (b := a + d) ⟨by omega, by omega⟩ ⟨by omega, by omega⟩ (by omega))
    have hw5 : (H3.set b (rowB (swp l' (a + (d / 4 * 2 - 1) + i) (a + q))))[H.length]? = some (.row [.int .u64 z] true) := by
      rw [List.getElem?_set_ne (by omega)]; exact hw2
    simp (disch := omega) [f0, f1, f8, f9, f10, f11, f12, e1, e2, wrap_i64, g1, g2, w1, w2, sq_addr, -viaddrS_in, -vstore, -vload_ptrO]
    exact ⟨by omega, by omega, _, hr5, ⟨z, hw2⟩, hps5⟩
  · simp
    exact hK _ _ hr hp
theorem sq_choose (hs : SqS b H0 l0 l H) (hlim : lim ≤ b) (hst : allStor fs = true ∧ allStor cs = true) (hc : CmpQ b g fs cs H0 l0 cf) {a e : Nat} (hae : a + 8 ≤ e ∧ e ≤ l0.length) (hl : l0.length ≤ 100000)
    (hK : ∀ H' (v h : Nat), SqS b H0 l0 l H' → (a ≤ v ∧ v < e) → K (.tup [.int .i64 (v : Nat), .int .i64 (h : Nat)]) H') : VCall tbl lim 103 [.sl b 0 l0.length 4, .int .i64 a, .int .i64 e, .func (.func g) fs cs] H K := by
  refine VCall_fn tbl_at103 rfl ?_
  have hn := hs.n
  have hb := hs.blt
  have hle := hs.len
  obtain ⟨d, rfl⟩ : ∃ d, e = a + d := ⟨e - a, by omega⟩
  have e0 : (a : Int) + (d : Int) - (a : Int) = (d : Int) := by omega
  have e8 : ((8 : Int) ≤ (d : Int)) = True := eq_true (by omega)
  obtain ⟨q, eq4, hd4⟩ : ∃ q : Nat, (d : Int).tdiv 4 = (q : Int) ∧ 4 * q ≤ d ∧ d ≤ 4 * q + 3 := ⟨d / 4, tdiv_nat _ 4, by omega, by omega⟩
  simp (disch := omega) [vf103, wrap_i64, e0, e8, eq4]
  have row1 : (H ++ [Blk.row [V.int .i64 0] true])[H.length]? = some (.row [.int .i64 0] true) := by simp
  have hs1 : SqS b H0 l0 l (H ++ [Blk.row [V.int .i64 0] true]) := hs.grow HX.push
  generalize H ++ [Blk.row [V.int .i64 0] true] = H1 at *
  generalize H.length = sw at *
  refine wCond_join (fun fr L H' => ∃ i j k w, (fr 0 = .sl b 0 l0.length 4 ∧ fr 3 = .func (.func g) fs cs ∧ fr 11 = .ptr sw 0 ∧ fr 12 = .int .i64 (i : Nat) ∧ fr 13 = .int .i64 (j : Nat) ∧ fr 14 = .int .i64 (k : Nat)) ∧ L = [] ∧ SqS b H0 l0 l H' ∧ H'[sw]? = some (.row [.int .i64 w] true) ∧ (a ≤ i ∧ i < a + d) ∧ (a ≤ j ∧ j < a + d) ∧ a ≤ k ∧ k < a + d) (fun h => ?_) (fun h => ?_) ?_
  · simp at h
    have c1 : (a : Int) + (q : Int) = ((a + q : Nat) : Int) := by omega
    have c2 : (a : Int) + (q : Int) * 2 = ((a + q * 2 : Nat) : Int) := by omega
    have c3 : (a : Int) + (q : Int) * 3 = ((a + q * 3 : Nat) : Int) := by omega
    simp only [c1, c2, c3]
    generalize hi : a + q = i at *
    generalize hj : a + q * 2 = j at *
    generalize hk : a + q * 3 = k at *
    simp [hst]
    refine sq_medianAdj hs1 hlim hst hc row1 hle (x := i) (by omega) hl fun H2 w2 r2 hs2 row2 h2 => ?_
    simp [hst]
    refine sq_medianAdj hs2 hlim hst hc row2 hle (x := j) (by omega) hl fun H3 w3 r3 hs3 row3 h3 => ?_
    simp [hst]
    refine sq_medianAdj hs3 hlim hst hc row3 hle (x := k) (by omega) hl fun H4 w4 r4 hs4 row4 h4 => ?_
    simp
    exact ⟨r2, r3, r4, by omega, hs4, ⟨w4, row4⟩, by omega, by omega, by omega, by omega⟩
  · simp
    exact ⟨a + q, a + q * 2, a + q * 3, by omega, hs1, ⟨0, row1⟩, by omega, by omega, by omega, by omega⟩
  rintro fr L H2 ⟨i, j, k, w, ⟨f0, f3, f11, f12, f13, f14⟩, rfl, hs2, row2, hi, hj, hk⟩
  simp [f0, f3, f11, f12, f13, f14, hst]
  refine sq_median hs2 hlim hst hc row2 hle (x := i) (y := j) (z := k) (by omega) (by omega) (by omega) fun H3 w3 r hs3 row3 h3 => ?_
  have ld := fun L => sw_ld row3 (L := L)
  simp [f0, f3, f11, f12, f13, f14, ld, -vload_ptrO]
  refine cond_dec (fun h => ?_) fun h => ?_
  · simp
    exact hK _ r 1 hs3 (by omega)
  simp
  refine cond_dec (fun h => ?_) fun h => ?_
  · simp
    exact hK _ r 2 hs3 (by omega)
  · simp
    exact hK _ r 0 hs3 (by omega)
theorem sq_pdq (hc : CmpQ b g fs cs H0 l0 cf) (ho : Ordr cf) (hst : allStor fs = true ∧ allStor cs = true) (hlim : lim ≤ b) (hl : l0.length < 256) : ∀ (n : Nat) {H : Hp} {l : List EQ} {a e : Nat} {lm : Nat} {K : V → Hp → Prop}, e - a ≤ n → SqS b H0 l0 l H → (a ≤ e ∧ e ≤ l0.length) → lm ≤ 1000 → GdR cf a e l →
    (∀ H' l', SqS b H0 l0 l' H' → PermR a e l l' → SortR cf a e l' → K (.tup []) H') → VCall tbl lim 92 [.sl b 0 l0.length 4, .int .i64 a, .int .i64 e, .int .i64 lm, .func (.func g) fs cs] H K := by
  intro n
  induction n using Nat.strongRecOn with
  | ind n ih =>
  intro H l a e lm K hn hs hae hlm hg hK
  have hb := hs.blt
  refine VCall_fn tbl_at92 rfl ?_
  have hln := hs.n
  simp [vf92]
  refine wLoop_m (n := e - a) (fun m fr L H' => ∃ l' a' e' lm wb wp, (fr 0 = .sl b 0 l0.length 4 ∧ fr 1 = .int .i64 (a' : Nat) ∧ fr 2 = .int .i64 (e' : Nat) ∧ fr 3 = .int .i64 (lm : Nat) ∧ fr 4 = .func (.func g) fs cs ∧ fr 10 = .bool wb ∧ fr 11 = .bool wp) ∧ L = [] ∧ SqS b H0 l0 l' H' ∧ PermR a e l l' ∧ OutR cf a e a' e' l' ∧ GdR cf a' e' l' ∧ lm ≤ 1000 ∧ m = e' - a' ∧ m ≤ e - a) ⟨l, a, e, lm, true, true, by simp, rfl, hs, PermR.refl, OutR.start hae.1, hg, hlm, rfl, Nat.le_refl _⟩ ?_
  clear hs hg hlm
  rintro m fr L H1 ⟨l1, x, y, lm1, wb, wp, ⟨f0, f1, f2, f3, f4, f10, f11⟩, rfl, hs, hp, hO, hg, hlm, hm, hm2⟩
  have hlen := hp.len
  have hrg := hO.rng
  have e0 : (y : Int) - (x : Int) = ((y - x : Nat) : Int) := by omega
  simp (disch := omega) [f0, f1, f2, f3, f4, f10, f11, wrap_i64, hst]
  refine cond_dec (fun h12 => ?_) fun h12 => ?_
  · simp [f0, f1, f2, f3, f4, f10, f11, hst]
    refine sq_isort hs hlim hst hc ho (a := x) (e := y) (by omega) (by omega) fun H2 l2 hs2 hp2 hso2 => ?_
    simp
    exact hK _ _ hs2 (hp.trans (hp2.wide hrg.1 hrg.2.2)) ((hO.perm hp2 (by omega)).sort hso2)
  simp [f0, f1, f2, f3, f4, f10, f11, hst]
  by_cases hz : lm1 = 0
  · subst hz
    simp [f0, f1, f2, f3, f4, f10, f11, hst]
    refine sq_heap hs hlim hst hc ho (a := x) (e := y) (by omega) (by omega) fun H2 l2 hs2 hp2 hso2 => ?_
    simp
    exact hK _ _ hs2 (hp.trans (hp2.wide hrg.1 hrg.2.2)) ((hO.perm hp2 (by omega)).sort hso2)
  simp [f0, f1, f2, f3, f4, f10, f11, hst, hz]
  refine wCond_join (fun fr L H' => ∃ l' lm, (fr 0 = .sl b 0 l0.length 4 ∧ fr 1 = .int .i64 x ∧ fr 2 = .int .i64 y ∧ fr 3 = .int .i64 (lm : Nat) ∧ fr 4 = .func (.func g) fs cs ∧ fr 10 = .bool wb ∧ fr 11 = .bool wp ∧ fr 12 = .int .i64 ((y : Int) - (x : Int))) ∧ L = [] ∧ SqS b H0 l0 l' H' ∧ PermR a e l l' ∧ OutR cf a e x y l' ∧ GdR cf x y l' ∧ lm ≤ 1000) (fun h => ?_) (fun h => ?_) ?_
  · simp [f0, f1, f2, f3, f4, f10, f11, hst]
    refine sq_break hs hlim (a := x) (e := y) (by simp [stor, hst]) (by omega) (by omega) fun H2 l2 hs2 hp2 => ?_
    have e1 : (lm1 : Int) - 1 = ((lm1 - 1 : Nat) : Int) := by omega
    simp (disch := omega) [f0, f1, f2, f3, f4, f10, f11, wrap_i64, e1]
    exact ⟨l2, lm1 - 1, by omega, hs2, hp.trans (hp2.wide hrg.1 hrg.2.2), hO.perm hp2 (by omega), hg.perm hp2 (Nat.le_refl _) (Nat.le_refl _) (by omega), by omega⟩
  · simp [f0, f1, f2, f3, f4, f10, f11]
    exact ⟨l1, lm1, by omega, hs, hp, hO, hg, by omega⟩
  clear f0 f1 f2 f3 f4 f10 f11 hs hp hO hg hlen hlm hz
  rintro fr L H2 ⟨l2, lm2, ⟨f0, f1, f2, f3, f4, f10, f11, f12⟩, rfl, hs, hp, hO, hg, hlm⟩
  have hlen := hp.len
  simp [f0, f1, f2, f3, f4, f10, f11, f12, hst]
  refine sq_choose hs hlim hst hc (a := x) (e := y) (by omega) (by omega) fun H3 v hint hs3 hv => ?_
  simp [f0, f1, f2, f3, f4, f10, f11, f12, hst]
  refine wCond_join (fun fr L H' => ∃ l' v hint, (fr 0 = .sl b 0 l0.length 4 ∧ fr 1 = .int .i64 x ∧ fr 2 = .int .i64 y ∧ fr 3 = .int .i64 (lm2 : Nat) ∧ fr 4 = .func (.func g) fs cs ∧ fr 10 = .bool wb ∧ fr 11 = .bool wp ∧ fr 12 = .int .i64 ((y : Int) - (x : Int)) ∧ fr 13 = .int .i64 (v : Nat) ∧ fr 14 = .int .i64 (hint : Nat)) ∧ L = [] ∧ SqS b H0 l0 l' H' ∧ PermR a e l l' ∧ OutR cf a e x y l' ∧ GdR cf x y l' ∧ x ≤ v ∧ v < y) (fun h => ?_) (fun h => ?_) ?_
  · simp [f0, f1, f2, f3, f4, f10, f11, hst]
    refine sq_reverse hs3 hlim (a := x) (e := y) (by omega) (by omega) fun H4 l4 hs4 hp4 => ?_
    simp (disch := omega) [f0, f1, f2, f3, f4, f10, f11, f12, wrap_i64]
    exact ⟨l4, (y - 1) - (v - x), ⟨by omega, 1, rfl⟩, hs4, hp.trans (hp4.wide hrg.1 hrg.2.2), hO.perm hp4 (by omega), hg.perm hp4 (Nat.le_refl _) (Nat.le_refl _) (by omega), by omega, by omega⟩
  · simp [f0, f1, f2, f3, f4, f10, f11, f12]
    exact ⟨l2, v, ⟨rfl, hint, rfl⟩, hs3, hp, hO, hg, by omega, by omega⟩
  clear f0 f1 f2 f3 f4 f10 f11 f12 hs hs3 hp hO hg hlen hv
  rintro fr L H4 ⟨l4, v, hint, ⟨f0, f1, f2, f3, f4, f10, f11, f12, f13, f14⟩, rfl, hs, hp, hO, hg, hv⟩
  have hlen := hp.len
  rw [seqQ_normal]
  refine wSeq_join (fun fr L H' => ∃ l' wb wp, (fr 0 = .sl b 0 l0.length 4 ∧ fr 1 = .int .i64 x ∧ fr 2 = .int .i64 y ∧ fr 3 = .int .i64 (lm2 : Nat) ∧ fr 4 = .func (.func g) fs cs ∧ fr 12 = .int .i64 ((y : Int) - (x : Int)) ∧ fr 13 = .int .i64 (v : Nat) ∧ fr 10 = .bool wb ∧ fr 11 = .bool wp) ∧ L = [] ∧ SqS b H0 l0 l' H' ∧ PermR a e l l' ∧ OutR cf a e x y l' ∧ GdR cf x y l') ?_ ?_
  · have pis : ∀ (fr : Fr), fr 0 = .sl b 0 l0.length 4 → True := fun _ _ => trivial
    by_cases hh : wb = true ∧ wp = true ∧ hint = 1
    · obtain ⟨rfl, rfl, rfl⟩ := hh
      simp [f0, f1, f2, f3, f4, f10, f11, f12, f13, f14, hst]
      refine sq_pis hs hlim hst hc ho (a := x) (e := y) (by omega) (by omega) hg fun H5 l5 ok hs5 hp5 hso5 => ?_
      cases ok with
      | true =>
        simp
        exact hK _ _ hs5 (hp.trans (hp5.wide hrg.1 hrg.2.2)) ((hO.perm hp5 (by omega)).sort (hso5 rfl))
      | false =>
        simp [f0, f1, f2, f3, f4, f10, f11, f12, f13, f14]
        exact ⟨l5, hs5, hp.trans (hp5.wide hrg.1 hrg.2.2), hO.perm hp5 (by omega), hg.perm hp5 (Nat.le_refl _) (Nat.le_refl _) (by omega)⟩
    · have fin : ∃ l', SqS b H0 l0 l' H4 ∧ PermR a e l l' ∧ OutR cf a e x y l' ∧ GdR cf x y l' := ⟨l4, hs, hp, hO, hg⟩
      cases wb with
      | false =>
        simp [f0, f1, f2, f3, f4, f10, f11, f12, f13, f14]
        exact fin
      | true =>
        cases wp with
        | false =>
          simp [f0, f1, f2, f3, f4, f10, f11, f12, f13, f14]
          exact fin
        | true =>
          have h1 : ((hint : Int) = 1) = False := eq_false (by simp at hh; omega)
          simp [f0, f1, f2, f3, f4, f10, f11, f12, f13, f14, h1]
          exact fin
  clear f0 f1 f2 f3 f4 f10 f11 f12 f13 f14 hs hp hO hg hlen
  rintro fr L H5 ⟨l5, wb, wp, ⟨f0, f1, f2, f3, f4, f12, f13, f10, f11⟩, rfl, hs, hp, hO, hg⟩
  have hlen := hp.len
  refine wSeq_join (fun fr L H' => ∃ l' wb wp, (fr 0 = .sl b 0 l0.length 4 ∧ fr 1 = .int .i64 x ∧ fr 2 = .int .i64 y ∧ fr 3 = .int .i64 (lm2 : Nat) ∧ fr 4 = .func (.func g) fs cs ∧ fr 12 = .int .i64 ((y : Int) - (x : Int)) ∧ fr 13 = .int .i64 (v : Nat) ∧ fr 10 = .bool wb ∧ fr 11 = .bool wp) ∧ L = [] ∧ SqS b H0 l0 l' H' ∧ PermR a e l l' ∧ OutR cf a e x y l' ∧ GdR cf x y l') ?_ ?_
  · by_cases hx0 : x = 0
    · have h0 : (0 < x) = False := eq_false (by omega)
      simp [f0, f1, f2, f3, f4, f10, f11, f12, f13, h0]
      exact ⟨l5, hs, hp, hO, hg⟩
    · have h0 : (0 < x) = True := eq_true (by omega)
      have e1 : ((x : Int) - 1).toNat = x - 1 := by omega
      have g1 := fun L => sq_ld hs.row (i := x - 1) (by omega) (L := L)
      have g2 := fun L => sq_ld hs.row (i := v) (by omega) (L := L)
      simp (disch := omega) [f0, f1, f2, f3, f4, f10, f11, f12, f13, h0, e1, wrap_i64, g1, g2, hst, sq_addr, -viaddrS_in, -vload_ptrO]
      refine hc.at hs (i := x - 1) (j := v) (by omega) (by omega) fun H6 x6 hs6 => ?_
      simp
      refine cond_ndec (fun hlt => ?_) fun hlt => ?_
      · simp [f0, f1, f2, f3, f4, f10, f11, f12, f13, hst]
        refine sq_partEq hs6 hlim hst hc ho (a := x) (e := y) (v := v) (by omega) (by omega) (hg.least ho (by omega) hlt) fun H7 l7 q hs7 hp7 hq heq => ?_
        have hO7 := (hO.perm hp7 (by omega)).equal (m := q) (by omega) heq
        simp [f0, f1, f2, f3, f4, f10, f11, f12, f13]
        exact ⟨y - q, by omega, l7, q, y, lm2, by omega, hs7, hp.trans (hp7.wide hrg.1 hrg.2.2), hO7, hO7.guard (by omega), by omega, rfl, by omega⟩
      · simp [f0, f1, f2, f3, f4, f10, f11, f12, f13]
        exact ⟨l5, hs6, hp, hO, hg⟩
  clear f0 f1 f2 f3 f4 f10 f11 f12 f13 hs hp hO hg hlen
  rintro fr L H6 ⟨l6, wb, wp, ⟨f0, f1, f2, f3, f4, f12, f13, f10, f11⟩, rfl, hs, hp, hO, hg⟩
  have hlen := hp.len
  simp [f0, f1, f2, f3, f4, f10, f11, f12, f13, hst]
  refine sq_part hs hlim hst hc ho (a := x) (e := y) (v := v) (by omega) (by omega) fun H7 l7 q ok hs7 hp7 hq => ?_
  have hqr := hq.rng
  have hO7 := hO.perm hp7 (by omega)
  have hp77 := hp.trans (hp7.wide hrg.1 hrg.2.2)
  have hl7 := hp77.len
  simp (disch := omega) [f0, f1, f2, f3, f4, f10, f11, f12, f13, hst, wrap_i64]
  refine cond_dec (fun hlr => ?_) fun hlr => ?_
  · simp [f0, f1, f2, f3, f4, f10, f11, f12, f13, hst]
    refine ih (q - x) (by omega) (Nat.le_refl _) hs7 (by omega) hlm ((hg.perm hp7 (Nat.le_refl _) (Nat.le_refl _) (by omega)).less (by omega)) fun H8 l8 hs8 hp8 hso8 => ?_
    have hO8 := hO7.left ho hq hp8 hso8 (by omega)
    simp (disch := omega) [f0, f1, f2, f3, f4, f10, f11, f12, f13, hst, wrap_i64]
    exact ⟨y - (q + 1), by omega, l8, q + 1, y, lm2, by omega, hs8, hp77.trans (hp8.wide (by omega) (by omega)), hO8, hO8.guard (by omega), by omega, rfl, by omega⟩
  · have e1 : (q : Int) + 1 = ((q + 1 : Nat) : Int) := by omega
    simp (disch := omega) [f0, f1, f2, f3, f4, f10, f11, f12, f13, hst, wrap_i64]
    rw [e1]
    refine ih (y - (q + 1)) (by omega) (Nat.le_refl _) hs7 (by omega) hlm (fun _ k h1 h2 => hq.hi k (by omega) h2) fun H8 l8 hs8 hp8 hso8 => ?_
    have hO8 := hO7.right ho hq hp8 hso8 (by omega)
    simp (disch := omega) [f0, f1, f2, f3, f4, f10, f11, f12, f13, hst, wrap_i64]
    exact ⟨q - x, by omega, l8, x, q, lm2, by omega, hs8, hp77.trans (hp8.wide (by omega) (by omega)), hO8, ((hg.perm hp7 (Nat.le_refl _) (Nat.le_refl _) (by omega)).perm hp8 (by omega) (Nat.le_refl _) (by omega)).less (by omega), by omega, rfl, by omega⟩
theorem sq_sort (hb : H[b]? = some (rowB l)) (hlim : lim ≤ b) (hst : allStor fs = true ∧ allStor cs = true) (hc : CmpQ b g fs cs H l cf) (ho : Ordr cf) (hl : l.length < 256)
    (hK : ∀ H' l', SqS b H l l' H' → SortR cf 0 l.length l' → K (.tup []) H') : VCall tbl lim 70 [.sl b 0 l.length 4, .func (.func g) fs cs] H K := by
  refine VCall_fn tbl_at70 rfl ?_
  have hbl := (List.getElem?_eq_some_iff.1 hb).1
  have wu : IntKind.wrap .u64 (l.length : Int) = (l.length : Int) := wrap_u64 (by omega)
  simp [vf70, wu, hst]
  refine sq_bits (x := l.length) hl (by omega) fun m hm => ?_
  simp [hst]
  refine sq_pdq (a := 0) (e := l.length) hc ho hst hlim hl l.length (by omega) (SqS.start hb) (by omega) (by omega) (fun h => by omega) fun H' l' hs hp hso => ?_
  simp
  exact hK _ _ hs hso
theorem sq_sort0 (hlim : lim ≤ H.length) (hst : allStor fs = true ∧ allStor cs = true) (hK : K (.tup []) H) : VCall tbl lim 70 [.snil, .func (.func g) fs cs] H K := by
  refine VCall_fn tbl_at70 rfl ?_
  have wu : IntKind.wrap .u64 0 = 0 := wrap_u64 (by omega)
  simp [vf70, wu, hst]
  refine sq_bits (x := 0) (by omega) hlim fun m hm => ?_
  simp [hst]
  refine VCall_fn tbl_at92 rfl ?_
  simp [vf92]
  refine wLoop_round ?_
  simp [hst]
  refine VCall_fn tbl_at100 rfl ?_
  simp [vf100]
  refine wLoop_round ?_
  simp
  exact hK
end
end Go.Proofs.Ytkmcdiajcnejiaa.Vm
