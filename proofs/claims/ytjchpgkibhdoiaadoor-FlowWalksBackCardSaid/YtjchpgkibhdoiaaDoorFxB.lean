/- Walks back and in parts over the machine: FlowWalksBack. -/
import Derived.Test.YtjchpgkibhdoiaaDoorFwB
import Derived.Test.YtjchpgkibhdoiaaDoorFxA
namespace Go.Proofs.YtjchpgkibhdoiaaDoor.Vm
open Go
set_option maxRecDepth 100000
set_option maxHeartbeats 1000000
set_option linter.unusedSimpArgs false
set_option linter.unusedVariables false
attribute [-simp] List.getD_eq_getElem?_getD
section
variable {lim : Nat} {H : Hp} {K : V → Hp → Prop} {v d p : V} {D : List Int} {P : List Ed} {W Q x y u : Int} {w q : Nat}
theorem ap0_pl {y : V} {l : List Pl} (hy : LstV plC H y l) (h0 : 0 < l.length) (hl : l.length ≤ 100000) : vapp0 2 16 H .szero y = some (.sl H.length 0 l.length 2, H ++ [.row (plC.all l) true]) := by
  have hk : ¬ (l.length : Int) = 0 := by omega
  have h1 : l.length * 16 ≤ 140737488355328 := by omega
  have h2 : l.length < 4611686018427387904 := by omega
  simp only [vapp0, hy.cells, hy.len, hk, if_false, Int.toNat_natCast, h1, h2, if_true]
theorem veqA_2x {n : Bool} {a b x y : Int} : veqA n [.int .i64, .int .i64] (.agg [.int .i64 a, .int .i64 b]) (.agg [.int .i64 x, .int .i64 y]) = some (.bool (if n then !(decide (a = x) && decide (b = y)) else (decide (a = x) && decide (b = y)))) := by
  simp only [veqA, eqCells, eqCell, and_self, if_true, Bool.and_true]
  cases n <;> rfl
theorem law_FlowWalksBack {ws : List V} {f : Fld} {pv : V} {l : List Pl} {cut : Int} (hv : FldV H ws f) (hpv : LstV plC H pv l) (hg : HX glHp H) (hlim : lim ≤ H.length) (hcut : I64 cut) (hK : ∀ H', K (.bool true) H') : VCall tbl lim 4 [.agg ws, pv, .int .i64 cut] H K := by
  cases hv with
  | mk hW hQ hd hp hD =>
    rename_i d p W Q D P
    refine VCall_fn tbl_at4 rfl ?_
    simp [vf4, hd.stor, hp.stor, hpv.stor]
    refine fl_Long hd hp ?_
    by_cases c1 : 400 < D.length ∨ 200 < P.length
    · simp [c1]
      refine fl_known hlim fun H1 _ => ?_
      simp; exact hK _
    simp [c1, hpv.len]
    refine cond_dec (fun h => ?_) fun h => ?_
    · simp
      refine fl_known hlim fun H1 _ => ?_
      simp; exact hK _
    simp [hd.stor, hp.stor, hpv.stor]
    refine flow_Walk hg hd hp hpv hW hQ (by omega) (by omega) hlim fun H1 x1 => ?_
    replace x1 : HX H H1 := x1
    have l1 := x1.len
    by_cases he : (wkP W Q D P l).2 = 0
    case neg =>
      have hz := wkP_err he
      simp [eq_false he, hz]
      refine fl_known (by omega) fun H2 _ => ?_
      simp; exact hK _
    by_cases hl0 : l.length = 0
    case pos =>
      have hl : l = [] := List.length_eq_zero_iff.1 hl0
      have hz : (wkP W Q D P l).1 = 0 := by rw [hl]; exact wkP_nil
      simp [he, hz, hpv.len, hl0]
      refine fl_known (by omega) fun H2 _ => ?_
      simp; exact hK _
    obtain ⟨hval, hlen, hin, hs⟩ := wkP_ok he
    have hrev := wk_rev he
    have hsb := wkS_bd hs
    have hcl := fun h => wk_closed he h
    have hct := fun k hk => wk_cut (k := k) he hk
    have hln : ¬ (l.length : Int) = 0 := by omega
    rw [he]
    generalize hS : (wkP W Q D P l).1 = s at *
    have hpv1 := hpv.mono x1
    simp [hpv.len, hl0, hln]
    refine wLoop_up l.length (fun i fr L H' => ∃ u, (fr 1 = pv ∧ fr 2 = .int .i64 cut ∧ fr 3 = .lp 0 0 ∧ fr 7 = .int .i64 s ∧ fr 9 = u ∧ fr 10 = .int .i64 ((l.length : Int) - 1 - i)) ∧ L[0]? = some [.int .i64 W, .int .i64 Q, d, p] ∧ HX H1 H' ∧ OwnT H1.length plC H' u (l.reverse.take i)) ⟨.snil, ?_, rfl, HX.refl, by simpa using OwnT.nil⟩ ?_
    · simp (disch := omega) [wrap_i64]
    rintro i hi fr L H2 ⟨u, ⟨f1, f2, f3, f7, f9, f10⟩, l0, x2, o2⟩
    have l2 := x2.len
    have hpv2 := hpv1.mono x2
    simp [f1, f2, f3, f7, f9, f10]
    refine cond_dec (fun ht => ?_) fun hfl => ?_
    · have ht : i < l.length := by omega
      have ej : (l.length : Int) - 1 - i = ((l.length - 1 - i : Nat) : Int) := by omega
      have ai := hpv2.at (i := l.length - 1 - i) (by omega)
      have li := fun L => hpv2.load (i := l.length - 1 - i) (by omega) (L := L)
      have htl : (l.reverse.take i).length ≤ 1000 := by simp; omega
      obtain ⟨v', H3, a1, a2, a3, a4, a5, a6⟩ := o2.append (lim := lim) (bytes := 16) (x := l.getD (l.length - 1 - i) default) (cs := [.int .i64 (l.getD (l.length - 1 - i) default).x, .int .i64 (l.getD (l.length - 1 - i) default).y]) (Eq.trans rfl rfl) (by omega) (by omega) (by omega)
      have htk : l.reverse.take i ++ [l.getD (l.length - 1 - i) default] = l.reverse.take (i + 1) := by
        rw [List.take_add_one, List.getElem?_eq_getElem (by simpa using ht), ← rev_getD ht, getD_ofx (by simpa using ht)]; rfl
      rw [htk] at a2
      simp (disch := omega) [f1, f2, f3, f7, f9, f10, ej, ai, li, lpId_ept, vbslice_some, splice, a1, wrap_i64, plC_def]
      exact ⟨by omega, v', ⟨rfl, by omega⟩, l0, a3 _ x2 (Nat.le_refl _), a2⟩
    have hi2 : i = l.length := by omega
    subst hi2
    have o2 : OwnT H1.length plC H2 u l.reverse := by
      have e : l.reverse.take l.length = l.reverse := List.take_of_length_le (by simp)
      rw [e] at o2; exact o2
    have u1 : 0 ≤ IntKind.wrap .u64 cut := by simp [IntKind.wrap, IntKind.bits, IntKind.signed]; omega
    have u2 : IntKind.wrap .u64 (l.length : Int) = l.length := by simp [IntKind.wrap, IntKind.bits, IntKind.signed]; omega
    obtain ⟨k, hk, u3⟩ : ∃ k : Nat, k < l.length ∧ (IntKind.wrap .u64 cut).tmod (l.length : Int) = k := by
      rw [Int.tmod_eq_emod_of_nonneg u1]
      have b1 := Int.emod_nonneg (IntKind.wrap .u64 cut) (b := (l.length : Int)) (by omega)
      have b2 := Int.emod_lt_of_pos (IntKind.wrap .u64 cut) (b := (l.length : Int)) (by omega)
      exact ⟨((IntKind.wrap .u64 cut) % (l.length : Int)).toNat, by omega, by omega⟩
    have wk : IntKind.i64.wrap (k : Int) = k := wrap_i64 (by omega) (by omega)
    have vr : vbin .rem (.int .u64 (IntKind.wrap .u64 cut)) (.int .u64 (l.length : Int)) = some (.int .u64 k) := by rw [vbin_rem hln, u3]
    obtain ⟨a, b, ha, hb, hab⟩ := hct k hk
    have hd2 := (hd.mono x1).mono x2
    have hp2 := (hp.mono x1).mono x2
    simp [f1, f2, f3, f7, f9, f10, l0, hpv.len, u2, vr, wk, -vbin_rem, hd.stor, hp.stor, o2.lst.stor]
    refine flow_Walk ((hg.trans x1).trans x2) hd2 hp2 o2.lst hW hQ (by omega) (by simp; omega) (by omega) fun H3 x3 => ?_
    replace x3 : HX H2 H3 := x3
    have l3 := x3.len
    rw [hrev]
    have hpv3 := hpv2.mono x3
    have hd3 := hd2.mono x3
    have hp3 := hp2.mono x3
    have hpos : 0 < l.length := by omega
    have sl1 : vslS 2 pv none (some (.int .i64 ((k : Int) + 1))) = some (subV pv 0 (k + 1)) := hpv3.subW ⟨by omega, by omega⟩ hpos (vbounds_hi (k := .i64) (n := k + 1) (by omega))
    have sl2 : vslS 2 pv (some (.int .i64 (k : Int))) none = some (subV pv k l.length) := hpv3.subW ⟨by omega, by omega⟩ hpos (vbounds_lo (k := .i64) (n := k) (by omega))
    have hs1 := hpv3.sub (a := 0) (b := k + 1) ⟨by omega, by omega⟩
    simp only [List.drop_zero, Nat.sub_zero] at hs1
    have ht1 : (l.take (k + 1)).length = k + 1 := by simp; omega
    have ap1 := ap0_pl hs1 (by omega) (by omega)
    have x4 : HX H3 (H3 ++ [.row (plC.all (l.take (k + 1))) true]) := HX.push
    have n1 : LstV plC (H3 ++ [.row (plC.all (l.take (k + 1))) true]) (.sl H3.length 0 (l.take (k + 1)).length 2) (l.take (k + 1)) := (OwnT.new (c := plC) (n := 0) (H := H3) (l := l.take (k + 1)) (by omega)).lst
    rw [ht1] at ap1 n1
    generalize hH4 : H3 ++ [Blk.row (plC.all (l.take (k + 1))) true] = H4 at *
    have l4 := x4.len
    simp (disch := omega) [f1, f2, f3, f7, f9, f10, l0, wrap_i64, sl1, ap1, hd.stor, hp.stor]
    refine flow_Walk ((((hg.trans x1).trans x2).trans x3).trans x4) (hd3.mono x4) (hp3.mono x4) n1 hW hQ (by omega) (by rw [ht1]; omega) (Nat.le_refl _) fun H5 x5 => ?_
    replace x5 : HX H4 H5 := x5
    have l5 := x5.len
    rw [ha]
    have hpv5 := (hpv3.mono x4).mono x5
    have hd5 := (hd3.mono x4).mono x5
    have hp5 := (hp3.mono x4).mono x5
    have hs2 := hpv5.sub (a := k) (b := l.length) ⟨by omega, by omega⟩
    have ht3 : (l.drop k).take (l.length - k) = l.drop k := List.take_of_length_le (by simp)
    rw [ht3] at hs2
    have ht2 : (l.drop k).length = l.length - k := by simp
    have ap2 := ap0_pl hs2 (by omega) (by omega)
    have x6 : HX H5 (H5 ++ [.row (plC.all (l.drop k)) true]) := HX.push
    have n2 : LstV plC (H5 ++ [.row (plC.all (l.drop k)) true]) (.sl H5.length 0 (l.drop k).length 2) (l.drop k) := (OwnT.new (c := plC) (n := 0) (H := H5) (l := l.drop k) (by omega)).lst
    rw [ht2] at ap2 n2
    generalize hH6 : H5 ++ [Blk.row (plC.all (l.drop k)) true] = H6 at *
    have l6 := x6.len
    simp (disch := omega) [f1, f2, f3, f7, f9, f10, l0, wrap_i64, sl2, ap2, hd.stor, hp.stor]
    refine flow_Walk ((((((hg.trans x1).trans x2).trans x3).trans x4).trans x5).trans x6) (hd5.mono x6) (hp5.mono x6) n2 hW hQ (by omega) (by rw [ht2]; omega) (Nat.le_refl _) fun H7 x7 => ?_
    replace x7 : HX H6 H7 := x7
    have l7 := x7.len
    rw [hb]
    have hpv7 := (hpv5.mono x6).mono x7
    have ad0 : viaddrS 2 pv (.int .i64 0) = some (ept 2 pv 0) := hpv7.at (i := 0) (by omega)
    have adn : viaddrS 2 pv (.int .i64 ((l.length : Int) - 1)) = some (ept 2 pv (l.length - 1)) := by
      have := hpv7.at (i := l.length - 1) (by omega)
      rw [show ((l.length - 1 : Nat) : Int) = (l.length : Int) - 1 by omega] at this
      exact this
    have ld0 : ∀ L, vload (some 2) L H7 (ept 2 pv 0) = some (.agg [.int .i64 (l.getD 0 default).x, .int .i64 (l.getD 0 default).y]) := fun L => hpv7.load (L := L) (i := 0) (by omega)
    have ldn : ∀ L, vload (some 2) L H7 (ept 2 pv (l.length - 1)) = some (.agg [.int .i64 (l.getD (l.length - 1) default).x, .int .i64 (l.getD (l.length - 1) default).y]) := fun L => hpv7.load (L := L) (i := l.length - 1) (by omega)
    have wn : IntKind.i64.wrap (0 - s) = -s := by rw [wrap_i64 (by omega) (by omega)]; omega
    have wn2 : IntKind.i64.wrap (-s) = -s := wrap_i64 (by omega) (by omega)
    have wl : IntKind.i64.wrap ((l.length : Int) - 1) = (l.length : Int) - 1 := wrap_i64 (by omega) (by omega)
    have wab : IntKind.i64.wrap (a + b) = s := by rw [hab]; exact wrap_i64 (by omega) (by omega)
    by_cases hc : (l.getD 0 default).x = (l.getD (l.length - 1) default).x ∧ (l.getD 0 default).y = (l.getD (l.length - 1) default).y
    · have hz : s.tmod 4 = 0 := hcl (by
        generalize l.getD 0 default = a0 at *
        generalize l.getD (l.length - 1) default = b0 at *
        cases a0; cases b0
        simp only at hc
        rw [hc.1, hc.2])
      simp [f1, f2, f3, f7, f9, f10, hpv.len, wn, wn2, wl, wab, ad0, adn, ld0, ldn, lpId_ept, veqA_2x, eq_true hc.1, eq_true hc.2, hz]
      refine fl_known (Nat.le_refl _) fun H8 _ => ?_
      simp; exact hK _
    · have hcf : (decide ((l.getD 0 default).x = (l.getD (l.length - 1) default).x) && decide ((l.getD 0 default).y = (l.getD (l.length - 1) default).y)) = false := by
        by_cases q1 : (l.getD 0 default).x = (l.getD (l.length - 1) default).x
        · have : ¬ (l.getD 0 default).y = (l.getD (l.length - 1) default).y := fun h => hc ⟨q1, h⟩
          simp [this]
        · simp [q1]
      simp [f1, f2, f3, f7, f9, f10, hpv.len, wn, wn2, wl, wab, ad0, adn, ld0, ldn, lpId_ept, veqA_2x, hcf]
      refine fl_known (Nat.le_refl _) fun H8 _ => ?_
      simp; exact hK _
end
end Go.Proofs.YtjchpgkibhdoiaaDoor.Vm
