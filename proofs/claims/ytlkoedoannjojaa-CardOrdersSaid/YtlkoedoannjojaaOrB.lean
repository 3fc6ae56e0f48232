/- Package card over the machine: Order, the document's Order, CardOrders. -/
import Derived.Test.YtlkoedoannjojaaOrA
namespace Go.Proofs.Ytlkoedoannjojaa.Vm
open Go
set_option maxRecDepth 100000
set_option maxHeartbeats 1000000
set_option linter.unusedSimpArgs false
set_option linter.unusedVariables false
attribute [-simp] List.getD_eq_getElem?_getD
section
variable {lim : Nat} {H : Hp} {K : V → Hp → Prop} {v w : V} {c : List En} {e f : En} {x y u q : Int}
theorem OwnV.ge {n : Nat} {H : Hp} {v : V} {l : List Int} (h : OwnV n H v l) : ∀ b o k z, v = .sl b o k z → n ≤ b := by
  cases h with
  | nil => intro b o k z e; cases e
  | row h1 h2 => intro b o k z e; cases e; exact h1
theorem sort_own {n g : Nat} {u : V} {l : List Int} {cf : Int → Int → Int} {fs cs : List V} (hu : OwnV n H u l) (hlim : lim ≤ n) (hn : n ≤ H.length) (hst : allStor fs = true ∧ allStor cs = true) (hc : ∀ b o z y, u = .sl b o z y → CmpQ b g fs cs H l cf) (ho : Ordr cf) (hl : l.length < 256)
    (hK : ∀ l' H', l'.Perm l → SortR cf 0 l'.length l' → OwnV n H' u l' → H.length ≤ H'.length → (∀ b', b' < H.length → (∀ o z y, u ≠ .sl b' o z y) → H'[b']? = H[b']?) → K (.tup []) H') : VCall tbl lim 53 [u, .func (.func g) fs cs] H K := by
  cases hu with
  | nil => exact sq_sort0 (by omega) hst (hK [] H (.refl _) (fun p q _ _ h => absurd h (by simp)) .nil (Nat.le_refl _) (fun _ _ _ => rfl))
  | row h1 h3 =>
    rename_i b
    refine sq_sort h3 (by omega) hst (hc b 0 l.length 1 rfl) ho hl fun H' l' hs hso => ?_
    have hn := hs.n
    refine hK l' H' hs.perm (by rw [hn]; exact hso) ?_ hs.len fun b' hb' hne => hs.oth b' hb' fun e => hne 0 l.length 1 (by rw [e])
    rw [← hn]
    exact .row h1 hs.row
theorem card_Order (hc : LstV enC H v c) (hsh : shortC c) (hlim : lim ≤ H.length) (hK : ∀ H' w, HX H H' → OwnV H.length H' w (ordR c) → K (.tup [w, .int .i64 (valE c)]) H') : VCall tbl lim 26 [v] H K := by
  refine VCall_fn tbl_at26 rfl ?_
  have hB0 : (H ++ [Blk.row [v] true])[H.length]? = some (.row [v] true) := List.getElem?_concat_length
  have rd1 : rd none [v] 0 = some v := Eq.trans rfl rfl
  simp [vf26, hc.stor, hc.one, hB0, rd1]
  generalize hHB : H ++ [Blk.row [v] true] = HB at *
  have xB : HX H HB := by rw [← hHB]; exact HX.push
  have lB : HB.length = H.length + 1 := by rw [← hHB]; simp
  have hcB := hc.mono xB
  refine card_Validate hcB hsh fun H1 x1 => ?_
  replace x1 : HX HB H1 := x1
  have l1 := x1.len
  by_cases hval : valE c = 0
  case neg =>
    have := hK H1 .snil (xB.trans x1) (by simp only [ordR, hval, if_false]; exact .nil)
    simp [hval]; exact this
  have hB1 := x1.get hB0
  have ld1 : ∀ L, vload none L H1 (.ptr H.length 0) = some v := fun L => by rw [vload_ptr hB1]; rfl
  have hc1 := hcB.mono x1
  have hsm := valE_small hval
  simp [hval, ld1, hc1.len, -vload_ptrO]
  refine wLoop_up c.length (fun i fr L H' => ∃ u5, (fr 1 = .ptr H.length 0 ∧ fr 13 = .int .i64 c.length ∧ fr 14 = .int .i64 i ∧ fr 5 = u5) ∧ HX H1 H' ∧ OwnV H1.length H' u5 (idL i)) ⟨.snil, by simp, HX.refl, .nil⟩ ?_
  rintro i hi fr L H2 ⟨u5, ⟨f1, f13, f14, f5⟩, x2, o5⟩
  have l2 := x2.len
  simp [f1, f13, f14, f5]
  refine cond_dec (fun ht => ?_) fun hfl => ?_
  · have ht : i < c.length := by omega
    have a5 := o5.append (lim := lim) (x := (i : Int)) ⟨by omega, by rw [idL_len]; omega⟩
    have p5 := o5.ap l2 (x := (i : Int)) (new := [.int .i64 (i : Int)])
    have xx5 := o5.apX x2 (Nat.le_refl _) (new := [.int .i64 (i : Int)]) (all := ints (idL i ++ [(i : Int)]))
    simp (disch := omega) [f1, f13, f14, f5, wrap_i64, vbslice_some, a5]
    refine ⟨by omega, xx5, ?_⟩
    rw [idL_succ]
    simpa using p5
  · have : i = c.length := by omega
    subst this
    have hst5 := o5.sl.stor
    simp [f1, f5, hst5]
    have hB2 := x2.get hB1
    have hc2 := hc1.mono x2
    have hge : ∀ b o z y, u5 = .sl b o z y → H1.length ≤ b := o5.ge
    refine sort_own (g := 54) (fs := []) (cs := [.ptr H.length 0]) (cf := cfO c) o5 (by omega) l2 ⟨rfl, rfl⟩ (fun b o z y e => ?_) cfO_ordr (by rw [idL_len]; omega) fun l' H3 hp hs o3 hl3 hoth => ?_
    · have hb := hge b o z y e
      refine ord_cmp hB2 (by omega) (fun b0 o k z e0 => ?_) hc2 hval fun x hx => ?_
      · have := hc.below b0 o k z e0
        omega
      · obtain ⟨i, rfl, hi⟩ := idL_mem.1 hx
        omega
    · have e := ord_eq hval hp hs
      simp [f5, o3.sl.stor]
      have hx3 : HX H H3 := HX.of (by have := (xB.trans (x1.trans x2)).len; omega) fun b hb => by
        rw [hoth b (by have := (xB.trans (x1.trans x2)).len; omega) (fun o z y e => by have := hge b o z y e; omega)]
        exact (xB.trans (x1.trans x2)).same hb
      have := hK H3 u5 hx3 (by
        have e2 : ordR c = l' := by simp only [ordR, hval, if_true]; exact e.symm
        rw [e2]; exact o3.le (by omega))
      rw [hval] at this
      exact this
theorem ref_order (hc : LstV enC H v c) (hval : valE c = 0) (hlim : lim ≤ H.length) (hK : ∀ H' w, HX H H' → OwnV H.length H' w (ordR c) → K w H') : VCall tbl lim 58 [v] H K := by
  refine VCall_fn tbl_at58 rfl ?_
  have hsm := valE_small hval
  have blen : ∀ n, n ≤ 181 → (ordN c n).length ≤ 35000 := fun n hn => by
    have := ordN_len (c := c) (n := n)
    have : n * (3 * c.length) ≤ 181 * (3 * 60) := Nat.mul_le_mul hn (by omega)
    omega
  have plen : ∀ n p, p ≤ 3 → (ordP c n p).length ≤ 200 := fun n p hp => by
    have := ordP_len (c := c) (n := n) (p := p)
    have : p * c.length ≤ 3 * 60 := Nat.mul_le_mul hp (by omega)
    omega
  simp [vf58]
  refine wLoop_up 181 (fun n fr L H' => ∃ u, (fr 0 = v ∧ fr 4 = .int .i64 n ∧ fr 3 = u) ∧ HX H H' ∧ OwnV H.length H' u (ordN c n)) ⟨.snil, by simp, HX.refl, .nil⟩ ?_
  rintro n hn fr L H1 ⟨u, ⟨f0, f4, f3⟩, hx, hu⟩
  simp [f0, f4, f3]
  refine cond_dec (fun ht => ?_) fun hfl => ?_
  · have ht : n < 181 := by omega
    simp [f0, f4, f3]
    refine wLoop_up 3 (fun p fr L H' => ∃ u, (fr 0 = v ∧ fr 4 = .int .i64 n ∧ fr 3 = u ∧ fr 5 = .int .i64 p) ∧ HX H H' ∧ OwnV H.length H' u (ordN c n ++ ordP c n p)) ⟨u, by simp [f0, f4, f3], hx, by simpa [ordP] using hu⟩ ?_
    clear f0 f4 f3 hx hu u
    rintro p hp fr L H1 ⟨u, ⟨f0, f4, f3, f5⟩, hx, hu⟩
    simp [f0, f4, f3, f5]
    refine cond_dec (fun ht2 => ?_) fun hfl2 => ?_
    · have ht2 : p < 3 := by omega
      simp [f0, f4, f3, f5]
      refine wLoop_up c.length (fun i fr L H' => ∃ u, (fr 0 = v ∧ fr 4 = .int .i64 n ∧ fr 3 = u ∧ fr 5 = .int .i64 p ∧ fr 6 = .int .i64 i) ∧ HX H H' ∧ OwnV H.length H' u (ordN c n ++ ordP c n p ++ ordI c n p i)) ⟨u, by simp [f0, f4, f3, f5], hx, by simpa [ordI] using hu⟩ ?_
      clear f0 f4 f3 f5 hx hu u
      rintro i hi fr L H1 ⟨u, ⟨f0, f4, f3, f5, f6⟩, hx, hu⟩
      have hxl := hx.len
      have hc1 := hc.mono hx
      simp [f0, f4, f3, f5, f6, hc1.len]
      refine cond_dec (fun ht3 => ?_) fun hfl3 => ?_
      · have ht3 : i < c.length := by omega
        have a1 := hc1.at ht3
        have fj := hc1.faddr (i := i) (j := 0) ht3
        simp (disch := omega) [f0, f4, f3, f5, f6, a1, en_load hc1]
        refine ref_age (e := c.getD i default) (comp_rng hval ht3) ?_
        have hsucc := ordI_succ (c := c) (n := n) (p := p) (k := i)
        by_cases e1 : ageE (c.getD i default) = n
        · simp (disch := omega) [f0, f4, f3, f5, f6, eq_true e1, a1, fj, en_get hc1, lpId_eptf]
          refine cond_dec (fun e2 => ?_) fun e2 => ?_
          · have hpk : pickB c n p i = true := by simp [pickB, e1, e2]
            rw [if_pos hpk] at hsucc
            have hlen : (ordN c n ++ ordP c n p ++ ordI c n p i).length < 100000 := by
              rw [List.length_append, List.length_append]
              have := blen n (by omega)
              have := plen n p (by omega)
              have := ordI_len (c := c) (n := n) (p := p) (k := i)
              omega
            have a5 := hu.append (lim := lim) (x := (i : Int)) ⟨by omega, by omega⟩
            have p5 := hu.ap hxl (x := (i : Int)) (new := [.int .i64 (i : Int)])
            have xx5 := hu.apX hx (Nat.le_refl _) (new := [.int .i64 (i : Int)]) (all := ints ((ordN c n ++ ordP c n p ++ ordI c n p i) ++ [(i : Int)]))
            generalize hM : ordN c n ++ ordP c n p ++ ordI c n p i = M at *
            simp (disch := omega) [f0, f4, f3, f5, f6, wrap_i64, vbslice_some, a5]
            refine ⟨by omega, xx5, ?_⟩
            have e5 : ordN c n ++ (ordP c n p ++ ordI c n p (i + 1)) = M ++ [(i : Int)] := by rw [hsucc, ← hM]; simp
            rw [e5]
            simpa using p5
          · have hpk : ¬ pickB c n p i = true := by simp [pickB, e2]
            rw [if_neg hpk] at hsucc
            simp (disch := omega) [f0, f4, f3, f5, f6, wrap_i64, hsucc]
            exact ⟨by omega, hx, by simpa using hu⟩
        · have hpk : ¬ pickB c n p i = true := by simp [pickB, e1]
          rw [if_neg hpk] at hsucc
          simp (disch := omega) [f0, f4, f3, f5, f6, wrap_i64, hsucc, eq_false e1]
          exact ⟨by omega, hx, by simpa using hu⟩
      · have : i = c.length := by omega
        subst this
        simp (disch := omega) [f0, f4, f3, f5, f6, wrap_i64]
        refine ⟨by omega, hx, ?_⟩
        rw [ordP, ← List.append_assoc]; exact hu
    · have : p = 3 := by omega
      subst this
      simp (disch := omega) [f0, f4, f3, f5, wrap_i64]
      refine ⟨by omega, hx, ?_⟩
      rw [ordN]; exact hu
  · have : n = 181 := by omega
    subst this
    simp [f3, hu.sl.stor]
    exact hK _ _ hx (by simp only [ordR, hval, if_true]; exact hu)
theorem ref_Order (hc : LstV enC H v c) (hsh : shortC c) (hlim : lim ≤ H.length) (hK : ∀ H' w, HX H H' → OwnV H.length H' w (ordR c) → K (.tup [w, .int .i64 (valE c)]) H') : VCall tbl lim 27 [v] H K := by
  refine VCall_fn tbl_at27 rfl ?_
  simp [vf27, hc.stor]
  refine ref_Validate hc hsh ?_
  by_cases hval : valE c = 0
  · simp [hval, hc.stor]
    refine ref_order hc hval hlim fun H' w hx ho => ?_
    simp [ho.sl.stor]
    have := hK H' w hx ho
    rw [hval] at this
    exact this
  · have := hK H .snil HX.refl (by simp only [ordR, hval, if_false]; exact .nil)
    simp [hval]; exact this
theorem law_sameInts {av bv : V} {l : List Int} (ha : SlV H av l) (hb : SlV H bv l) (hl : l.length ≤ 1000000) (hK : K (.bool true) H) : VCall tbl lim 28 [av, bv] H K := by
  refine VCall_fn tbl_at28 rfl ?_
  simp [vf28, ha.len, hb.len]
  refine wLoop_up l.length (fun i fr L H' => (fr 0 = av ∧ fr 1 = bv ∧ fr 5 = .int .i64 i) ∧ L = [] ∧ H' = H) ⟨by simp, rfl, rfl⟩ ?_
  rintro i hi fr L H' ⟨⟨f0, f1, f5⟩, rfl, e0⟩
  have e0 := e0.symm
  subst e0
  simp [f0, f1, f5, ha.len]
  refine cond_dec (fun ht => ?_) fun hfl => ?_
  · have ht : i < l.length := by omega
    have a1 := ha.addr (i := i) (by omega)
    have b1 := hb.addr (i := i) (by omega)
    simp only [Int.toNat_natCast] at a1 b1
    simp (disch := omega) [f0, f1, f5, a1, b1, ha.load, hb.load, lpId_ept, wrap_i64]
    omega
  · simp; exact hK
theorem law_CardOrders (hv : EnsV H v c ∧ c.length ≤ maxLen) (hlim : lim ≤ H.length) (hK : ∀ H', K (.bool true) H') : VCall tbl lim 6 [v] H K := by
  obtain ⟨⟨hc, h64⟩, hmax⟩ := hv
  refine VCall_fn tbl_at6 rfl ?_
  simp [vf6, hc.stor]
  refine law_Long hc ?_
  cases hl : longC c with
  | true =>
    simp
    refine law_known hlim fun H1 _ => ?_
    simp; exact hK _
  | false =>
    have hsh := long_short hl
    simp [hc.stor]
    refine card_Order hc hsh hlim fun H1 v1 x1 o1 => ?_
    replace x1 : HX H H1 := x1
    have l1 := x1.len
    have hc1 := hc.mono x1
    simp [hc1.stor]
    refine ref_Order hc1 hsh (by omega) fun H2 v2 x2 o2 => ?_
    replace x2 : HX H1 H2 := x2
    have l2 := x2.len
    have hc2 := hc1.mono x2
    have hol := ordR_len (c := c)
    have o1' := o1.sl.mono x2
    simp [o1'.stor, o2.sl.stor]
    refine law_sameInts o1' o2.sl (by omega) ?_
    simp
    refine wLoop_up (ordR c).length (fun i fr L H' => (fr 0 = v ∧ fr 3 = v1 ∧ fr 7 = .int .i64 i) ∧ L = [] ∧ HX H2 H') ⟨by simp, rfl, HX.refl⟩ ?_
    rintro i hi fr L H3 ⟨⟨f0, f3, f7⟩, rfl, x3⟩
    have o3 := o1'.mono x3
    simp [f0, f3, f7, o3.len]
    refine cond_dec (fun ht => ?_) fun hfl => ?_
    · have ht : i < (ordR c).length := by omega
      simp (disch := omega) [f0, f3, f7, wrap_i64]
      refine wLoop_up ((ordR c).length - (i + 1)) (fun k fr L H' => (fr 0 = v ∧ fr 3 = v1 ∧ fr 7 = .int .i64 i ∧ fr 8 = .int .i64 ((i + 1 + k : Nat) : Int)) ∧ L = [] ∧ HX H2 H') ⟨by simp [f0, f3, f7], rfl, x3⟩ ?_
      clear f0 f3 f7 x3 o3
      rintro k hk fr L H3 ⟨⟨f0, f3, f7, f8⟩, rfl, x3⟩
      have o3 := o1'.mono x3
      have hc3 := hc2.mono x3
      simp [f0, f3, f7, f8, o3.len]
      refine cond_dec (fun ht2 => ?_) fun hfl2 => ?_
      · have ht2 : i + 1 + k < (ordR c).length := by omega
        have hval : valE c = 0 := by
          apply Classical.byContradiction
          intro hn
          simp [ordR, hn] at ht
        obtain ⟨p1, p2, q1, q2, q3, q4, q5⟩ := ordR_not hval (i := i) (k := i + 1 + k) (by omega) ht2
        have a1 := o3.addr (i := i) (by omega)
        have b1 := o3.addr (i := (i : Int) + 1 + (k : Int)) (by omega)
        have e2 : ((i : Int) + 1 + (k : Int)).toNat = i + 1 + k := by omega
        rw [e2] at b1
        simp only [Int.toNat_natCast] at a1
        simp (disch := omega) [f0, f3, f7, f8, a1, b1, o3.load, lpId_ept, hc3.stor]
        refine card_HasSeen hc3 hsh fun H4 x4 => ?_
        replace x4 : HX H3 H4 := x4
        have e3 : hasE c ((ordR c).getD i 0) ((ordR c).getD (i + 1 + k) 0) = 0 := by
          rw [q1, q2]; simp [hasE, hval, inR, q3, q4]
        have e4 : hasP c ((ordR c).getD i 0) ((ordR c).getD (i + 1 + k) 0) = false := by
          rw [q1, q2]; simp [hasP, hval, inR, q3, q4, q5]
        rw [e3, e4]
        simp (disch := omega) [f0, f3, f7, f8, wrap_i64]
        exact ⟨by omega, by omega, x3.trans x4⟩
      · simp (disch := omega) [f0, f3, f7, f8, wrap_i64]
        exact ⟨by omega, x3⟩
    · simp
      refine law_known (by have := x3.len; omega) fun H4 _ => ?_
      simp; exact hK _
end
end Go.Proofs.Ytlkoedoannjojaa.Vm
