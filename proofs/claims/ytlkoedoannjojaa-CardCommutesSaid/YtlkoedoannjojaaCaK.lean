/- Package card over the machine: the card at a clock; CardMissing. -/
import Derived.Test.YtlkoedoannjojaaCaJ
namespace Go.Proofs.Ytlkoedoannjojaa.Vm
open Go
set_option maxRecDepth 100000
set_option linter.unusedSimpArgs false
set_option linter.unusedVariables false
attribute [-simp] List.getD_eq_getElem?_getD
section
variable {lim : Nat} {H : Hp} {K : V → Hp → Prop} {v w : V} {c l : List En} {e f : En} {s : ByteArray} {n x y z : Int}
theorem tri_w {x y z : Int} : rd (some 3) [V.int .i64 x, .int .i64 y, .int .i64 z] 0 = some (.agg [.int .i64 x, .int .i64 y, .int .i64 z]) := Eq.trans rfl rfl
theorem at_no1 (h : valE c ≠ 0) : atE c x y z = valE c ∧ atL c x y z = [] := by
  have e : atE c x y z = valE c := by simp [atE, h]
  exact ⟨e, by unfold atL; rw [e, if_neg h]⟩
theorem at_no2 (h : valE c = 0) {q : Nat} (hq : q < 3) (hr : rgB c x y z q = false) : atE c x y z = 1 ∧ atL c x y z = [] := by
  have e : atE c x y z = 1 := by simp [atE, h, allN_not hq hr]
  exact ⟨e, by unfold atL; rw [e]; rfl⟩
theorem at_no3 (h : valE c = 0) (hr : allN (rgB c x y z) 3 = true) {i : Nat} (hi : i < (cutL c x y z).length) {q : Nat} (hq : q < 3) (hs : inK x y z ((cutL c x y z).getD i default) q = false) : atE c x y z = 11 ∧ atL c x y z = [] := by
  have e : atE c x y z = 11 := by
    have : okK x y z (cutL c x y z) i = false := allN_not hq hs
    simp [atE, h, hr, allN_not hi this]
  exact ⟨e, by unfold atL; rw [e]; rfl⟩
theorem at_yes (h : valE c = 0) (hr : allN (rgB c x y z) 3 = true) (hs : allN (okK x y z (cutL c x y z)) (cutL c x y z).length = true) : atE c x y z = 0 ∧ atL c x y z = cutL c x y z := by
  have e : atE c x y z = 0 := by simp [atE, h, hr, hs]
  exact ⟨e, by unfold atL; rw [e]; rfl⟩
theorem cut_pl (h : valE c = 0) {i : Nat} (hi : i < (cutL c x y z).length) : 0 ≤ ((cutL c x y z).getD i default).p ∧ ((cutL c x y z).getD i default).p ≤ 2 := by
  obtain ⟨j, j1, _, j3⟩ := filE_mem hi
  unfold cutL at *
  rw [j3]; exact val_pl h j1
theorem card_At (hc : LstV enC H v c) (hsh : shortC c) (hlim : lim ≤ H.length) (hK : ∀ H' w, HX H H' → LstV enC H' w (atL c x y z) → K (.tup [w, .int .i64 (atE c x y z)]) H') : VCall tbl lim 37 [v, .agg [.int .i64 x, .int .i64 y, .int .i64 z]] H K := by
  refine VCall_fn tbl_at37 rfl ?_
  have xb : HX H (H ++ [.row [.int .i64 x, .int .i64 y, .int .i64 z] true]) := HX.push
  have hb : (H ++ [.row [.int .i64 x, .int .i64 y, .int .i64 z] true])[H.length]? = some (Blk.row [.int .i64 x, .int .i64 y, .int .i64 z] true) := List.getElem?_concat_length
  have lb := xb.len
  simp [vf37, hc.stor]
  refine card_Clock (hc.mono xb) hsh fun H1 x1 => ?_
  have hc1 := (hc.mono xb).mono x1
  have hb1 := x1.get hb
  have l1 := x1.len
  have x01 := xb.trans x1
  by_cases h : valE c = 0
  · rw [clk_ok h]
    have hl := valE_small h
    simp [h, hc.stor, cnt_sp, cnt_w, cnt_len, hb1]
    refine wLoop_up 3 (fun i fr L H' => (fr 0 = v ∧ fr 3 = .ptr H.length 0 ∧ fr 6 = .lp 0 0 ∧ fr 23 = .agg [.int .i64 x, .int .i64 y, .int .i64 z] ∧ fr 24 = .int .i64 i) ∧ L = [cntsL c c.length] ∧ H' = H1 ∧ allN (rgB c x y z) i = true) ⟨by simp, rfl, rfl, rfl⟩ ?_
    rintro i hi fr L H' ⟨⟨f0, f3, f6, f23, f24⟩, rfl, e0, hz⟩
    have e0 := e0.symm
    subst e0
    simp [f0, f3, f6, f23, f24]
    refine cond_dec (fun ht => ?_) fun hfl => ?_
    · have ht : i < 3 := by omega
      have b1 := tri_rd (a := x) (b := y) (c := z) ht
      have b2 := cnt_rdN (c := c) (i := c.length) ht
      simp (disch := omega) [f0, f3, f6, f23, f24, b1, b2]
      refine cond_bool (fun h2 => ?_) fun h2 => ?_
      · have h3 : rgB c x y z i = false := decide_eq_false (by simp only [Bool.or_eq_true, decide_eq_true_eq] at h2; omega)
        obtain ⟨e1, e2⟩ := at_no2 h ht h3
        simp
        rw [e1, e2] at hK
        exact hK _ _ x01 .nil
      · have h3 : rgB c x y z i = true := decide_eq_true (by simp only [Bool.or_eq_false_iff, decide_eq_false_iff_not] at h2; omega)
        simp (disch := omega) [f0, f3, f6, f23, f24, wrap_i64, allN, h3, hz]
        omega
    have : i = 3 := by omega
    subst this
    simp [f0, f3, hc.stor]
    clear f6 f23 f24
    refine card_only hc1 (by omega) (by omega) (fun i => upto (kq x y z) c i) (fun i hi H2 K2 x2 hK2 => card_At_1 (val_pl h hi) (x2.get hb1) hK2) fun H2 w x2 o2 => ?_
    have x02 := x01.trans x2
    have hb2 := x2.get hb1
    change OwnT _ enC H2 w (cutL c x y z) at o2
    have o2 := o2.lst
    have hfl : (cutL c x y z).length ≤ 60 := Nat.le_trans filE_len hl
    simp [o2.stor, o2.len]
    refine wLoop_up (cutL c x y z).length (fun i fr L H' => (fr 3 = .ptr H.length 0 ∧ fr 10 = w ∧ fr 41 = w ∧ fr 42 = .int .i64 (cutL c x y z).length ∧ fr 43 = .int .i64 i) ∧ H' = H2 ∧ allN (okK x y z (cutL c x y z)) i = true) ⟨by simp [f3, o2.len], rfl, rfl⟩ ?_
    clear f0 f3
    rintro i hi fr L H' ⟨⟨f3, f10, f41, f42, f43⟩, e0, hz2⟩
    have e0 := e0.symm
    subst e0
    simp [f3, f10, f41, f42, f43]
    refine cond_dec (fun ht => ?_) fun hfl => ?_
    · have ht : i < (cutL c x y z).length := by omega
      simp (disch := omega) [f3, f10, f41, f42, f43, o2.at ht, en_load o2, lastO, lastS]
      refine wLoop_up 3 (fun j fr L' H' => (fr 3 = .ptr H.length 0 ∧ fr 10 = w ∧ fr 41 = w ∧ fr 42 = .int .i64 (cutL c x y z).length ∧ fr 43 = .int .i64 i ∧ fr 48 = .agg [.int .i64 ((cutL c x y z).getD i default).a, .int .i64 ((cutL c x y z).getD i default).b, .int .i64 ((cutL c x y z).getD i default).c] ∧ fr 49 = .int .i64 j) ∧ H' = H2 ∧ allN (inK x y z ((cutL c x y z).getD i default)) j = true) ⟨by simp [f3, f10, f41, f42, f43], rfl, rfl⟩ ?_
      clear f3 f10 f41 f42 f43
      rintro j hj fr L' H' ⟨⟨f3, f10, f41, f42, f43, f48, f49⟩, e0, hz3⟩
      have e0 := e0.symm
      subst e0
      simp [f3, f10, f41, f42, f43, f48, f49]
      refine cond_dec (fun ht2 => ?_) fun hfl => ?_
      · have ht2 : j < 3 := by omega
        have b1 := tri_rd (a := ((cutL c x y z).getD i default).a) (b := ((cutL c x y z).getD i default).b) (c := ((cutL c x y z).getD i default).c) ht2
        have b2 := tri_rd (a := x) (b := y) (c := z) ht2
        simp (disch := omega) [f3, f10, f41, f42, f43, f48, f49, b1, hb2, b2]
        refine cond_dec (fun h2 => ?_) fun h2 => ?_
        · have h3 : inK x y z ((cutL c x y z).getD i default) j = false := decide_eq_false (by unfold En.at; omega)
          obtain ⟨e1, e2⟩ := at_no3 h hz ht ht2 h3
          simp
          rw [e1, e2] at hK
          exact hK _ _ x02 .nil
        · have h3 : inK x y z ((cutL c x y z).getD i default) j = true := decide_eq_true (by unfold En.at; omega)
          simp (disch := omega) [f3, f10, f41, f42, f43, f48, f49, wrap_i64, allN, h3, hz3]
          omega
      have : j = 3 := by omega
      subst this
      have h3 : okK x y z (cutL c x y z) i = true := hz3
      simp (disch := omega) [f3, f10, f41, f42, f43, wrap_i64, allN, h3, hz2]
      omega
    have : i = (cutL c x y z).length := by omega
    subst this
    obtain ⟨e1, e2⟩ := at_yes h hz hz2
    simp [f10, o2.stor]
    rw [e1, e2] at hK
    exact hK _ _ x02 o2
  · obtain ⟨e1, e2⟩ := at_no1 (x := x) (y := y) (z := z) h
    rw [clk_no h]
    simp [eq_false h]
    rw [e1, e2] at hK
    exact hK _ _ x01 .nil
theorem ref_At (hc : LstV enC H v c) (hsh : shortC c) (hlim : lim ≤ H.length) (hK : ∀ H' w, HX H H' → LstV enC H' w (atL c x y z) → K (.tup [w, .int .i64 (atE c x y z)]) H') : VCall tbl lim 38 [v, .agg [.int .i64 x, .int .i64 y, .int .i64 z]] H K := by
  refine VCall_fn tbl_at38 rfl ?_
  simp [vf38, hc.stor]
  refine ref_Validate hc hsh ?_
  simp
  by_cases h : valE c = 0
  · have hl := valE_small h
    simp [h]
    refine wLoop_up 3 (fun i fr L H' => (fr 0 = v ∧ fr 3 = .lp 0 0 ∧ fr 7 = .int .i64 i) ∧ L = [[.int .i64 x, .int .i64 y, .int .i64 z]] ∧ H' = H ∧ allN (rgB c x y z) i = true) ⟨by simp, rfl, rfl, rfl⟩ ?_
    rintro i hi fr L H' ⟨⟨f0, f3, f7⟩, rfl, e0, hz⟩
    have e0 := e0.symm
    subst e0
    simp [f0, f3, f7]
    refine cond_dec (fun ht => ?_) fun hfl => ?_
    · have ht : i < 3 := by omega
      have b1 := tri_rd (a := x) (b := y) (c := z) ht
      have b2 := cnt_rdN (c := c) (i := c.length) ht
      have hno : rgB c x y z i = false → K (.tup [.snil, .int .i64 1]) H := fun h3 => by
        obtain ⟨e1, e2⟩ := at_no2 h ht h3
        rw [e1, e2] at hK
        exact hK _ _ HX.refl .nil
      by_cases h2 : tri x y z i < 0
      · have h3 : rgB c x y z i = false := decide_eq_false (by omega)
        simp (disch := omega) [f0, f3, f7, b1, h2]
        exact hno h3
      simp (disch := omega) [f0, f3, f7, b1, h2, hc.stor]
      refine ref_clock hc hl (fun j hj => val_pl h hj) ?_
      unfold cntsL at *
      simp (disch := omega) [f0, f3, f7, b1, h2, b2]
      refine cond_dec (fun h4 => ?_) fun h4 => ?_
      · have h3 : rgB c x y z i = false := decide_eq_false (by omega)
        simp
        exact hno h3
      · have h3 : rgB c x y z i = true := decide_eq_true (by omega)
        simp (disch := omega) [f0, f3, f7, wrap_i64, allN, h3, hz]
        omega
    have : i = 3 := by omega
    subst this
    simp [f0, f3]
    have hfl : (cutL c x y z).length ≤ 60 := Nat.le_trans filE_len hl
    refine wLoop_up c.length (fun i fr L H' => (fr 0 = v ∧ fr 3 = .lp 0 0 ∧ fr 9 = .int .i64 i) ∧ L = [[.int .i64 x, .int .i64 y, .int .i64 z]] ∧ (∃ u, fr 8 = u ∧ OwnT H.length enC H' u (filE (upto (kq x y z) c) c i)) ∧ HX H H') ⟨by simp [f0, f3], rfl, ⟨.snil, by simp, .nil⟩, HX.refl⟩ ?_
    clear f0 f3 f7
    rintro i hi fr L H' ⟨⟨f0, f3, f9⟩, rfl, ⟨u, f8, hu⟩, hx'⟩
    simp [f0, f3, f9, hc.len]
    refine cond_dec (fun ht => ?_) fun hfl => ?_
    · have ht : i < c.length := by omega
      have hc' := hc.mono hx'
      have hxl := hx'.len
      have hfl := @filE_len (upto (kq x y z) c) c i
      have hpi := val_pl h ht
      have r1 : rd none [.int .i64 x, .int .i64 y, .int .i64 z] (c.getD i default).p.toNat = some (.int .i64 (tri x y z (c.getD i default).p.toNat)) := tri_rd (by omega)
      obtain ⟨v', H3, b1, b2, b3, b4, b5, b6⟩ := hu.append (lim := lim) (bytes := 56) (x := c.getD i default) (cs := [.int .i64 (c.getD i default).p, .int .i64 (c.getD i default).s, .int .i64 (c.getD i default).a, .int .i64 (c.getD i default).b, .int .i64 (c.getD i default).c, .str (c.getD i default).t]) rfl ⟨hlim, hxl⟩ (by omega) (by omega)
      simp (disch := omega) [f0, f3, f8, f9, hc'.at ht, hc'.faddr ht, en_get hc' ht, r1]
      refine cond_dec (fun hs => ?_) fun hs => ?_
      · have hg : upto (kq x y z) c i = true := decide_eq_true (by unfold kq; omega)
        simp (disch := omega) [f0, f3, f8, f9, hc'.at ht, en_load hc', vbslice_some, b1, wrap_i64, filE, hg]
        exact ⟨by omega, b2, b3 _ hx' (Nat.le_refl _)⟩
      · have hg : upto (kq x y z) c i = false := decide_eq_false (by unfold kq; omega)
        simp (disch := omega) [f0, f3, f8, f9, wrap_i64, filE, hg]
        exact ⟨by omega, hu, hx'⟩
    have : i = c.length := by omega
    subst this
    change OwnT _ enC H' u (cutL c x y z) at hu
    have o2 := hu.lst
    simp [f3, f8]
    refine wLoop_up (cutL c x y z).length (fun i fr L H1 => (fr 3 = .lp 0 0 ∧ fr 8 = u ∧ fr 10 = .int .i64 i) ∧ L = [[.int .i64 x, .int .i64 y, .int .i64 z]] ∧ H1 = H' ∧ allN (okK x y z (cutL c x y z)) i = true) ⟨by simp [f3, f8], rfl, rfl, rfl⟩ ?_
    clear f0 f3 f8 f9
    rintro i hi fr L H1 ⟨⟨f3, f8, f10⟩, rfl, e0, hz2⟩
    have e0 := e0.symm
    subst e0
    simp [f3, f8, f10, o2.len]
    refine cond_dec (fun ht => ?_) fun hfl => ?_
    · have ht : i < (cutL c x y z).length := by omega
      simp (disch := omega) [f3, f8, f10]
      refine wLoop_up 3 (fun j fr L' H1 => (fr 3 = .lp 0 0 ∧ fr 8 = u ∧ fr 10 = .int .i64 i ∧ fr 11 = .int .i64 j) ∧ L' = [[.int .i64 x, .int .i64 y, .int .i64 z]] ∧ H1 = H' ∧ allN (inK x y z ((cutL c x y z).getD i default)) j = true) ⟨by simp [f3, f8, f10], rfl, rfl, rfl⟩ ?_
      clear f3 f8 f10
      rintro j hj fr L' H1 ⟨⟨f3, f8, f10, f11⟩, rfl, e0, hz3⟩
      have e0 := e0.symm
      subst e0
      simp [f3, f8, f10, f11]
      refine cond_dec (fun ht2 => ?_) fun hfl => ?_
      · have ht2 : j < 3 := by omega
        have b1 : ∀ L, vload none L H' (eptf 6 u i (2 + j)) = some (.int .i64 (tri ((cutL c x y z).getD i default).a ((cutL c x y z).getD i default).b ((cutL c x y z).getD i default).c j)) := fun L => by
          rw [en_get o2 ht (by omega)]; exact en_rd ht2
        have b2 := tri_rd (a := x) (b := y) (c := z) ht2
        simp (disch := omega) [f3, f8, f10, f11, o2.at ht, o2.faddr ht, o2.faddr2 ht, b1, b2]
        refine cond_dec (fun h2 => ?_) fun h2 => ?_
        · have h3 : inK x y z ((cutL c x y z).getD i default) j = false := decide_eq_false (by unfold En.at; omega)
          obtain ⟨e1, e2⟩ := at_no3 h hz ht ht2 h3
          simp
          rw [e1, e2] at hK
          exact hK _ _ hx' .nil
        · have h3 : inK x y z ((cutL c x y z).getD i default) j = true := decide_eq_true (by unfold En.at; omega)
          simp (disch := omega) [f3, f8, f10, f11, wrap_i64, allN, h3, hz3]
          omega
      have : j = 3 := by omega
      subst this
      have h3 : okK x y z (cutL c x y z) i = true := hz3
      simp (disch := omega) [f3, f8, f10, wrap_i64, allN, h3, hz2]
      omega
    have : i = (cutL c x y z).length := by omega
    subst this
    obtain ⟨e1, e2⟩ := at_yes h hz hz2
    simp [f8, o2.stor]
    rw [e1, e2] at hK
    exact hK _ _ hx' o2
  · obtain ⟨e1, e2⟩ := at_no1 (x := x) (y := y) (z := z) h
    simp [eq_false h]
    rw [e1, e2] at hK
    exact hK _ _ HX.refl .nil
end
end Go.Proofs.Ytlkoedoannjojaa.Vm
