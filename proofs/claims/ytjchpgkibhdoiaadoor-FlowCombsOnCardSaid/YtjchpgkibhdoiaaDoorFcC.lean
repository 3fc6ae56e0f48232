/- Combing over the machine: the reference, FlowCombs, FlowCombsOn. -/
import Derived.Test.YtjchpgkibhdoiaaDoorFcB
namespace Go.Proofs.YtjchpgkibhdoiaaDoor.Vm
open Go
set_option maxRecDepth 100000
set_option linter.unusedSimpArgs false
set_option linter.unusedVariables false
attribute [-simp] List.getD_eq_getElem?_getD

section
variable {lim : Nat} {H : Hp} {K : V → Hp → Prop} {v d p : V} {D : List Int} {P : List Ed} {W Q x y u : Int} {w q : Nat}
theorem ref_named {pv : V} {l : List Pl} {a : Pl} (hpv : LstV plC H pv l) (hn : l.length ≤ 2000) (hK : K (.bool (!allN (fun j => !eqPl (l.getD j default) a) l.length)) H) : VCall tbl lim 61 [pv, .int .i64 a.x, .int .i64 a.y] H K := by
  refine VCall_fn tbl_at61 rfl ?_
  simp [vf61]
  refine wLoop_up l.length (fun i fr L H' => (fr 0 = pv ∧ fr 1 = .int .i64 a.x ∧ fr 2 = .int .i64 a.y ∧ fr 7 = .int .i64 i) ∧ L = [] ∧ H' = H ∧ allN (fun j => !eqPl (l.getD j default) a) i = true) ⟨by simp, rfl, rfl, rfl⟩ ?_
  rintro i hi fr L H' ⟨⟨f0, f1, f2, f7⟩, rfl, e0, ha⟩
  have e0 := e0.symm
  subst e0
  simp [f0, f1, f2, f7, hpv.len]
  refine cond_dec (fun ht => ?_) fun hfl => ?_
  · have ht : i < l.length := by omega
    have ad := hpv.at ht
    have fa0 : vfaddr 0 (ept 2 pv i) = some (eptf 2 pv i 0) := hpv.faddr ht
    have fa1 : vfaddr 1 (ept 2 pv i) = some (eptf 2 pv i 1) := hpv.faddr ht
    have ld0 : ∀ L, vload none L H (eptf 2 pv i 0) = some (.int .i64 (l.getD i default).x) := fun L => hpv.rd1 ht (by omega)
    have ld1 : ∀ L, vload none L H (eptf 2 pv i 1) = some (.int .i64 (l.getD i default).y) := fun L => hpv.rd1 ht (by omega)
    simp [f0, f1, f2, f7, ad, fa0, fa1, ld0, ld1]
    refine cond_bool (fun h2 => ?_) fun h2 => ?_
    · have h3 : eqPl (l.getD i default) a = true := h2
      rw [allN_not (f := fun j => !eqPl (l.getD j default) a) ht (by simp [h3])] at hK
      simp
      exact hK
    · have h3 : eqPl (l.getD i default) a = false := h2
      simp (disch := omega) [f0, f1, f2, f7, wrap_i64, allN, ha, h3]
      exact ht
  · have : i = l.length := by omega
    subst this
    rw [ha] at hK
    simp
    exact hK
theorem s8 {a b c d e f g h : V} : splice (ints (zs 8)) 0 [a, b, c, d, e, f, g, h] = [a, b, c, d, e, f, g, h] := Eq.trans rfl rfl
theorem b8 {a b c d e f g h : V} : vfill (ints (zs 8)) [(0, 1, a), (1, 1, b), (2, 1, c), (3, 1, d), (4, 1, e), (5, 1, f), (6, 1, g), (7, 1, h)] = vfill (ints (zs 8)) [(0, 1, a), (1, 1, b), (2, 1, c), (3, 1, d), (4, 1, e), (5, 1, f), (6, 1, g), (7, 1, h)] := rfl
theorem seen_plL {po : Nat → Pl} {i : Nat} : (!allN (fun j => !eqPl ((plL po i).getD j default) (po i)) (plL po i).length) = seenB po i := by
  unfold seenB
  rw [plL_len, allN_congr (g := fun j => !eqPl (po j) (po i)) fun j hj => by simp only [plL_at hj]]
set_option maxHeartbeats 1000000 in
theorem ref_Comb {s : Pl} (hd : SlV H d D) (hp : EdV H p P) (hW : I64 W) (hQ : I64 Q) (hl : D.length ≤ 1000 ∧ P.length ≤ 1000) (hlim : lim ≤ H.length)
    (hK : ∀ H' v, HX H H' → OwnT H.length plC H' v (cbP W Q D P s).1 → K (.tup [v, .bool (cbP W Q D P s).2.1, .int .i64 (cbP W Q D P s).2.2]) H') : VCall tbl lim 26 [.agg [.int .i64 W, .int .i64 Q, d, p], .int .i64 s.x, .int .i64 s.y] H K := by
  refine VCall_fn tbl_at26 rfl ?_
  simp [vf26, hd.stor, hp.stor]
  refine ref_Validate hd hp hW hQ hl hlim fun H1 x1 => ?_
  replace x1 : HX H H1 := x1
  have l1 := x1.len
  simp
  refine cond_ndec (fun h => ?_) fun h => ?_
  · simp
    have := hK H1 .snil x1
    simp only [cbP, if_neg h] at this; exact this .nil
  obtain ⟨w, q, rfl, rfl, hf⟩ := valid_pre h
  have hw1 := hf.w1
  have hq1 := hf.q1
  simp only [cbP, if_pos h, Int.toNat_natCast] at hK
  simp [hd.stor, hp.stor]
  refine ref_isPlaceP (a := s) hd.stor hp.stor (by omega) (by omega) ?_
  simp
  refine cond_bool (fun h2 => ?_) fun h2 => ?_
  · have h2 : ¬ inPl w q s = true := by simpa using h2
    simp
    have := hK H1 .snil x1
    simp only [if_neg h2] at this; exact this .nil
  have h2 : inPl w q s = true := by simpa using h2
  simp only [if_pos h2] at hK
  have z8 : ints (zs 8) = [.int .i64 0, .int .i64 0, .int .i64 0, .int .i64 0, .int .i64 0, .int .i64 0, .int .i64 0, .int .i64 0] := rfl
  simp [z8, splice]
  generalize hpos : pos w D s = po at *
  have po0 : po 0 = s := by rw [← hpos]; rfl
  have poS : ∀ i, po (i + 1) = nxt w D (po i) := fun i => by rw [← hpos]; rfl
  have hm := mul_bd (a := (w : Int)) (b := (q : Int)) (A := 12) (B := 12) (by omega) (by omega)
  have hen : ends w q po ≤ 144 := by
    have h1 := (ends_spec (w := w) (q := q) (p := po)).2.2
    have e : ((w * q : Nat) : Int) = (w : Int) * q := by simp
    omega
  refine wLoop_up (ends w q po) (fun i fr L H' => ∃ v, (fr 1 = .int .i64 (po i).x ∧ fr 2 = .int .i64 (po i).y ∧ fr 3 = .lp 0 0 ∧ fr 10 = .lp 1 0 ∧ fr 11 = .lp 2 0 ∧ fr 12 = v) ∧ L = [[.int .i64 w, .int .i64 q, d, p], [.int .i64 1, .int .i64 1, .int .i64 0, .int .i64 (-1), .int .i64 (-1), .int .i64 (-1), .int .i64 0, .int .i64 1], [.int .i64 0, .int .i64 1, .int .i64 1, .int .i64 1, .int .i64 0, .int .i64 (-1), .int .i64 (-1), .int .i64 (-1)]] ∧ HX H H' ∧ OwnT H.length plC H' v (plL po i)) ⟨.snil, by simp [po0], by simp, x1, by simpa [plL] using OwnT.nil⟩ ?_
  rintro i hi fr L H2 ⟨v, ⟨f1, f2, f3, f10, f11, f12⟩, rfl, hx, hv⟩
  simp [f1, f2, f3, f10, f11, f12, hd.stor, hp.stor]
  refine ref_isPlaceP (a := po i) hd.stor hp.stor (by omega) (by omega) ?_
  simp
  refine cond_bool (fun h3 => ?_) fun h3 => ?_
  case refine_2 =>
    have e := stp_end hi (by simp only [stpB, h3]; rfl)
    subst e
    rw [h3] at hK
    simp [f12, hv.lst.stor]
    exact hK _ _ hx hv
  simp [f1, f2, f3, f10, f11, f12, hv.lst.stor]
  refine ref_named (a := po i) hv.lst (by rw [plL_len]; omega) ?_
  rw [seen_plL]
  simp
  refine cond_bool (fun h4 => ?_) fun h4 => ?_
  · have e := stp_end hi (by simp only [stpB, h4]; simp)
    subst e
    rw [h3] at hK
    simp [f12, hv.lst.stor]
    exact hK _ _ hx hv
  have hlt := stp_lt hi (by simp only [stpB, h4, h3]; rfl)
  have hx2 := hx.len
  obtain ⟨v', H3, a1, a2, a3, a4, a5, a6⟩ := hv.append (lim := lim) (bytes := 16) (x := po i) (cs := [.int .i64 (po i).x, .int .i64 (po i).y]) rfl ⟨hlim, hx.len⟩ (by omega) (by rw [plL_len]; omega)
  have hx3 := a3 _ hx (Nat.le_refl _)
  have ix := in_idx h3
  have hpl := h3
  simp only [inPl, decide_eq_true_eq] at hpl
  have hdl := hf.dl
  have m1 := mul_bd (a := (po i).y) (b := (w : Int)) (A := 12) (B := 12) (by omega) (by omega)
  have hd3 := hd.mono hx3
  have hdd := hf.dd ((po i).y * w + (po i).x).toNat
  have b1 := dX_bd (d := D.getD ((po i).y * w + (po i).x).toNat 0)
  have b2 := dY_bd (d := D.getD ((po i).y * w + (po i).x).toNat 0)
  simp [f1, f2, f3, f10, f11, f12, hd.stor, hp.stor, a1]
  refine ref_at hd3 hp.stor (by omega) ?_
  have hxx : (po (i + 1)).x = (po i).x + dX (D.getD ((po i).y * w + (po i).x).toNat 0) := by rw [poS i]; rfl
  have hyy : (po (i + 1)).y = (po i).y + dY (D.getD ((po i).y * w + (po i).x).toNat 0) := by rw [poS i]; rfl
  generalize D.getD ((po i).y * w + (po i).x).toNat 0 = dd at *
  have rx := rd_X hdd
  have ry := rd_Y hdd
  have ad1 : ∀ id : Nat, viaddrA 8 1 (.lp id 0) (.int .i64 dd) = some (.lp id dd.toNat) := fun id => by
    rw [viaddrA_in (by omega)]; simp [vfaddr_lp]
  simp (disch := omega) [f1, f2, f3, f10, f11, f12, ad1, rx, ry, wrap_i64, -viaddrA_in, hxx, hyy]
  refine ⟨hlt, hx3, ?_⟩
  rw [plL_succ]; exact a2
theorem law_FlowCombs {ws : List V} {f : Fld} (hv : FldV H ws f) (hg : HX glHp H) (hlim : lim ≤ H.length) (hx : I64 x) (hy : I64 y) (hK : ∀ H', K (.bool true) H') : VCall tbl lim 7 [.agg ws, .agg [.int .i64 x, .int .i64 y]] H K := by
  cases hv with
  | mk hW hQ hd hp hD =>
    rename_i d p W Q D P
    refine VCall_fn tbl_at7 rfl ?_
    simp [vf7, hd.stor, hp.stor]
    refine fl_Long hd hp ?_
    simp only [Bool.decide_or]
    refine cond_bool (fun h => ?_) fun h => ?_
    · simp
      refine fl_known hlim fun H1 _ => ?_
      simp; exact hK _
    have h : ¬ (400 < D.length ∨ 200 < P.length) := by simpa using h
    simp [hd.stor, hp.stor]
    refine flow_Comb (s := ⟨x, y⟩) hg hd hp hW hQ (by omega) hlim fun H1 lv x1 o1 => ?_
    replace x1 : HX H H1 := x1
    have l1 := x1.len
    simp [hd.stor, hp.stor, o1.lst.stor]
    refine ref_Comb (s := ⟨x, y⟩) (hd.mono x1) (hp.mono x1) hW hQ (by omega) (by omega) fun H2 mv x2 o2 => ?_
    replace x2 : HX H1 H2 := x2
    have l2 := x2.len
    have o1 := o1.mono x2
    generalize hc : cbP W Q D P ⟨x, y⟩ = cb at *
    obtain ⟨l, bx, er⟩ := cb
    simp only at o1 o2
    simp [o1.lst.stor, o2.lst.stor, o1.lst.len, o2.lst.len]
    have hlen : l.length ≤ 2000 := by
      have e : l = (cbP W Q D P ⟨x, y⟩).1 := by rw [hc]
      rw [e]
      unfold cbP
      split
      · rename_i hv
        obtain ⟨w, q, rfl, rfl, hf⟩ := valid_pre hv
        have hw1 := hf.w1
        have hq1 := hf.q1
        split
        · simp only [plL_len, Int.toNat_natCast]
          have h1 := (ends_spec (w := w) (q := q) (p := pos w D ⟨x, y⟩)).2.2
          have h2 : w * q ≤ 12 * 12 := Nat.mul_le_mul hw1.2 hq1.2
          omega
        · simp
      · simp
    refine wLoop_up l.length (fun i fr L H' => ∃ X, (fr 5 = lv ∧ fr 8 = mv ∧ fr 11 = .int .i64 i) ∧ L = X ∧ H' = H2) ⟨_, by simp, rfl, rfl⟩ ?_
    rintro i hi fr L H3 ⟨X, ⟨f5, f8, f11⟩, rfl, e0⟩
    have e0 := e0.symm
    subst e0
    simp [f5, f8, f11, o1.lst.len]
    refine cond_dec (fun ht => ?_) fun hfl => ?_
    · have ht : i < l.length := by omega
      have ad1 := o1.lst.at ht
      have ad2 := o2.lst.at ht
      have ld1 : ∀ L, vload (some 2) L H2 (ept 2 lv i) = some (.agg [.int .i64 (l.getD i default).x, .int .i64 (l.getD i default).y]) := fun L => o1.lst.load ht
      have ld2 : ∀ L, vload (some 2) L H2 (ept 2 mv i) = some (.agg [.int .i64 (l.getD i default).x, .int .i64 (l.getD i default).y]) := fun L => o2.lst.load ht
      simp (disch := omega) [f5, f8, f11, ad1, ad2, ld1, ld2, veqA_2, wrap_i64]
      exact ht
    · simp
      refine fl_known (by omega) fun H4 _ => ?_
      simp; exact hK _
set_option maxHeartbeats 1000000 in
theorem law_FlowCombsOn {ws : List V} {f : Fld} {at_ : Int} (hv : FldV H ws f) (hg : HX glHp H) (hlim : lim ≤ H.length) (hx : I64 x) (hy : I64 y) (hat : I64 at_) (hK : ∀ H', K (.bool true) H') : VCall tbl lim 8 [.agg ws, .agg [.int .i64 x, .int .i64 y], .int .i64 at_] H K := by
  cases hv with
  | mk hW hQ hd hp hD =>
    rename_i d p W Q D P
    refine VCall_fn tbl_at8 rfl ?_
    simp [vf8, hd.stor, hp.stor]
    refine fl_Long hd hp ?_
    simp only [Bool.decide_or]
    refine cond_bool (fun h => ?_) fun h => ?_
    · simp
      refine fl_known hlim fun H1 _ => ?_
      simp; exact hK _
    have h : ¬ (400 < D.length ∨ 200 < P.length) := by simpa using h
    simp [hd.stor, hp.stor]
    refine flow_Comb (s := ⟨x, y⟩) hg hd hp hW hQ (by omega) hlim fun H1 lv x1 o1 => ?_
    replace x1 : HX H H1 := x1
    have l1 := x1.len
    by_cases hval : validP W Q D P = 0
    case neg =>
      have e : cbP W Q D P ⟨x, y⟩ = ([], false, validP W Q D P) := by unfold cbP; rw [if_neg hval]
      rw [e] at o1 ⊢
      simp [hd.stor, hp.stor, o1.lst.stor, o1.lst.len, hval]
      refine fl_known (by omega) fun H4 _ => ?_
      simp; exact hK _
    obtain ⟨w, q, rfl, rfl, hf⟩ := valid_pre hval
    by_cases hin : inPl w q ⟨x, y⟩ = true
    case neg =>
      have e : cbP w q D P ⟨x, y⟩ = ([], false, 5) := by unfold cbP; rw [if_pos hval, if_neg hin]
      rw [e] at o1 ⊢
      simp [hd.stor, hp.stor, o1.lst.stor, o1.lst.len]
      refine fl_known (by omega) fun H4 _ => ?_
      simp; exact hK _
    have hw1 := hf.w1
    have hq1 := hf.q1
    have hcb : ∀ s : Pl, inPl w q s = true → cbP w q D P s = (plL (pos w D s) (ends w q (pos w D s)), inPl w q (pos w D s (ends w q (pos w D s))), 0) := fun s hs => by
      unfold cbP; rw [if_pos hval, if_pos hs]; rfl
    rw [hcb _ hin] at o1 ⊢
    simp only at o1 ⊢
    have es := ends_spec (w := w) (q := q) (p := pos w D ⟨x, y⟩)
    have hm : w * q ≤ 12 * 12 := Nat.mul_le_mul hw1.2 hq1.2
    have hmz : ((w * q : Nat) : Int) = (w : Int) * q := by simp
    have hwq : IntKind.i64.wrap ((w : Int) * q) = (w : Int) * q := wrap_i64 (by omega) (by omega)
    have on := fun {k : Nat} (hk : k < ends w q (pos w D ⟨x, y⟩)) => comb_on (w := w) (q := q) (D := D) (s := ⟨x, y⟩) hk
    have hpos0 : pos w D ⟨x, y⟩ 0 = ⟨x, y⟩ := rfl
    have ep : 1 ≤ ends w q (pos w D ⟨x, y⟩) := by
      apply Classical.byContradiction
      intro hlt
      have h0 : ends w q (pos w D ⟨x, y⟩) = 0 := by omega
      have := es.1
      rw [h0] at this
      simp only [stpB, hpos0, hin, seenB, allN] at this
      cases this
    generalize hpo : pos w D ⟨x, y⟩ = po at *
    generalize hN : ends w q po = N at *
    have hinN : ∀ i, i < N → inPl w q (po i) = true := fun i hi => by
      have := es.2.1 i hi
      simp only [stpB, Bool.or_eq_false_iff, Bool.not_eq_false'] at this
      exact this.1
    have hn0 : ¬ (N : Int) = 0 := by omega
    have hn2 : ¬ N = 0 := by omega
    have hn1 : ¬ (w : Int) * q < (N : Int) := by omega
    have hvl : vlenS lv = some (.int .i64 N) := by rw [o1.lst.len, plL_len]
    have u1 : 0 ≤ IntKind.wrap .u64 at_ := by simp [IntKind.wrap, IntKind.bits, IntKind.signed]; omega
    have u2 : IntKind.wrap .u64 (N : Int) = N := by simp [IntKind.wrap, IntKind.bits, IntKind.signed]; omega
    obtain ⟨k, hk, u3⟩ : ∃ k : Nat, k < N ∧ (IntKind.wrap .u64 at_).tmod (N : Int) = k := by
      rw [Int.tmod_eq_emod_of_nonneg u1]
      have b1 := Int.emod_nonneg (IntKind.wrap .u64 at_) (b := (N : Int)) (by omega)
      have b2 := Int.emod_lt_of_pos (IntKind.wrap .u64 at_) (b := (N : Int)) (by omega)
      exact ⟨((IntKind.wrap .u64 at_) % (N : Int)).toNat, by omega, by omega⟩
    have wk : IntKind.i64.wrap (k : Int) = k := wrap_i64 (by omega) (by omega)
    have vr : vbin .rem (.int .u64 (IntKind.wrap .u64 at_)) (.int .u64 (N : Int)) = some (.int .u64 k) := by rw [vbin_rem hn0, u3]
    have ad0 : viaddrS 2 lv (.int .i64 0) = some (ept 2 lv 0) := o1.lst.at (i := 0) (by rw [plL_len]; omega)
    have ld0 : ∀ L, vload (some 2) L H1 (ept 2 lv 0) = some (.agg [.int .i64 x, .int .i64 y]) := fun L => by
      have := o1.lst.load (L := L) (i := 0) (by rw [plL_len]; omega)
      rw [plL_at (by omega), hpos0] at this; exact this
    have adk : viaddrS 2 lv (.int .i64 k) = some (ept 2 lv k) := o1.lst.at (i := k) (by rw [plL_len]; omega)
    have fa0 : vfaddr 0 (ept 2 lv k) = some (eptf 2 lv k 0) := o1.lst.faddr (by rw [plL_len]; omega)
    have fa1 : vfaddr 1 (ept 2 lv k) = some (eptf 2 lv k 1) := o1.lst.faddr (by rw [plL_len]; omega)
    have lk0 : ∀ L, vload none L H1 (eptf 2 lv k 0) = some (.int .i64 (po k).x) := fun L => by
      have := o1.lst.rd1 (L := L) (i := k) (j := 0) (by rw [plL_len]; omega) (by omega)
      rw [plL_at hk] at this; exact this
    have lk1 : ∀ L, vload none L H1 (eptf 2 lv k 1) = some (.int .i64 (po k).y) := fun L => by
      have := o1.lst.rd1 (L := L) (i := k) (j := 1) (by rw [plL_len]; omega) (by omega)
      rw [plL_at hk] at this; exact this
    simp [hd.stor, hp.stor, o1.lst.stor, hvl, hn0, hn2, hn1, hwq, ad0, ld0, veqA_2, u2, vr, wk, adk, fa0, fa1, lk0, lk1, -vbin_rem]
    refine flow_Comb (s := po k) (hg.trans x1) (hd.mono x1) (hp.mono x1) hW hQ (by omega) (by omega) fun H2 mv x2 o2 => ?_
    replace x2 : HX H1 H2 := x2
    have l2 := x2.len
    have o1' := o1.lst.mono x2
    rw [hcb _ (hinN k hk)] at o2 ⊢
    simp only at o2 ⊢
    obtain ⟨c1, c2, c3⟩ := on hk
    have hadd : ∀ n, pos w D (po k) n = po (k + n) := fun n => by rw [← hpo]; exact pos_add n
    generalize hM : ends w q (pos w D (po k)) = M at *
    rw [c2]
    have hvm : vlenS mv = some (.int .i64 M) := by rw [o2.lst.len, plL_len]
    have g1 : ¬ (M : Int) < (N : Int) - k := by omega
    have wnk : IntKind.i64.wrap ((N : Int) - k) = (N : Int) - k := wrap_i64 (by omega) (by omega)
    have g2 : inPl w q (po N) = false → (M : Int) = (N : Int) - k := fun h => by have := c3 h; omega
    have fin : wCode tbl lim (.skip) (fun _ _ => True) ⟨fun _ => dv, [], []⟩ := trivial
    cases hb : inPl w q (po N) with
    | false =>
      have g3 := g2 hb
      simp (disch := omega) [hd.stor, hp.stor, o2.lst.stor, o1.lst.stor, hvl, hvm, g1, wnk, g3, wrap_i64]
      refine wLoop_up (N - k) (fun i fr L H' => ∃ X, (fr 7 = lv ∧ fr 10 = .int .i64 k ∧ fr 11 = mv ∧ fr 14 = .int .i64 ((k : Int) + i)) ∧ L = X ∧ H' = H2) ⟨_, by simp, rfl, rfl⟩ ?_
      rintro i hi fr L H3 ⟨X, ⟨f7, f10, f11, f14⟩, rfl, e0⟩
      have e0 := e0.symm
      subst e0
      simp [f7, f10, f11, f14, hvl]
      refine cond_dec (fun ht => ?_) fun hfl => ?_
      · have ht : k + i < N := by omega
        have ei : (k : Int) + i - k = i := by omega
        have ad1 : viaddrS 2 mv (.int .i64 i) = some (ept 2 mv i) := o2.lst.at (i := i) (by rw [plL_len]; omega)
        have ad2 : viaddrS 2 lv (.int .i64 ((k : Int) + i)) = some (ept 2 lv (k + i)) := by
          have := o1'.at (i := k + i) (by rw [plL_len]; omega)
          rw [Int.natCast_add] at this; exact this
        have ld1 : ∀ L, vload (some 2) L H2 (ept 2 mv i) = some (.agg [.int .i64 (po (k + i)).x, .int .i64 (po (k + i)).y]) := fun L => by
          have := o2.lst.load (L := L) (i := i) (by rw [plL_len]; omega)
          rw [plL_at (by omega), hadd] at this; exact this
        have ld2 : ∀ L, vload (some 2) L H2 (ept 2 lv (k + i)) = some (.agg [.int .i64 (po (k + i)).x, .int .i64 (po (k + i)).y]) := fun L => by
          have := o1'.load (L := L) (i := k + i) (by rw [plL_len]; omega)
          rw [plL_at ht] at this; exact this
        simp (disch := omega) [f7, f10, f11, f14, wrap_i64, ei, ad1, ad2, ld1, ld2, veqA_2]
        omega
      · simp
        refine fl_known (by omega) fun H4 _ => ?_
        simp; exact hK _
    | true =>
      simp (disch := omega) [hd.stor, hp.stor, o2.lst.stor, o1.lst.stor, hvl, hvm, g1, wnk, wrap_i64]
      refine wLoop_up (N - k) (fun i fr L H' => ∃ X, (fr 7 = lv ∧ fr 10 = .int .i64 k ∧ fr 11 = mv ∧ fr 14 = .int .i64 ((k : Int) + i)) ∧ L = X ∧ H' = H2) ⟨_, by simp, rfl, rfl⟩ ?_
      rintro i hi fr L H3 ⟨X, ⟨f7, f10, f11, f14⟩, rfl, e0⟩
      have e0 := e0.symm
      subst e0
      simp [f7, f10, f11, f14, hvl]
      refine cond_dec (fun ht => ?_) fun hfl => ?_
      · have ht : k + i < N := by omega
        have ei : (k : Int) + i - k = i := by omega
        have ad1 : viaddrS 2 mv (.int .i64 i) = some (ept 2 mv i) := o2.lst.at (i := i) (by rw [plL_len]; omega)
        have ad2 : viaddrS 2 lv (.int .i64 ((k : Int) + i)) = some (ept 2 lv (k + i)) := by
          have := o1'.at (i := k + i) (by rw [plL_len]; omega)
          rw [Int.natCast_add] at this; exact this
        have ld1 : ∀ L, vload (some 2) L H2 (ept 2 mv i) = some (.agg [.int .i64 (po (k + i)).x, .int .i64 (po (k + i)).y]) := fun L => by
          have := o2.lst.load (L := L) (i := i) (by rw [plL_len]; omega)
          rw [plL_at (by omega), hadd] at this; exact this
        have ld2 : ∀ L, vload (some 2) L H2 (ept 2 lv (k + i)) = some (.agg [.int .i64 (po (k + i)).x, .int .i64 (po (k + i)).y]) := fun L => by
          have := o1'.load (L := L) (i := k + i) (by rw [plL_len]; omega)
          rw [plL_at ht] at this; exact this
        simp (disch := omega) [f7, f10, f11, f14, wrap_i64, ei, ad1, ad2, ld1, ld2, veqA_2]
        omega
      · simp
        refine fl_known (by omega) fun H4 _ => ?_
        simp; exact hK _
end
end Go.Proofs.YtjchpgkibhdoiaaDoor.Vm
