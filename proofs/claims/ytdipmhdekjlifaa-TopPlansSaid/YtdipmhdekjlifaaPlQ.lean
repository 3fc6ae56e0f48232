/- Package plot over the machine: a longer shift, a later day; PlotLonger. -/
import Derived.Test.YtdipmhdekjlifaaPlP
namespace Go.Proofs.Ytdipmhdekjlifaa.Vm
open Go
set_option maxRecDepth 100000
set_option linter.unusedSimpArgs false
set_option linter.unusedVariables false
attribute [-simp] List.getD_eq_getElem?_getD
theorem SlV.keepB {H H' : Hp} {v : V} {l : List Int} (h : SlV H v l) (hk : ∀ b o n z, v = .sl b o n z → H'[b]? = H[b]?) : SlV H' v l := by
  cases h with
  | nil => exact .nil
  | empty => exact .empty
  | sl h1 h2 h3 => exact .sl (by rw [hk _ _ _ _ rfl]; exact h1) h2 h3
theorem OwnT.below {α : Type} {k : Nat} {c : Cod α k} {n : Nat} {H : Hp} {v : V} {l : List α} (h : OwnT n c H v l) : ∀ b o m z, v = .sl b o m z → b < H.length := h.lst.below
theorem vapp_t {α : Type} {k : Nat} {c : Cod α k} {H : Hp} {lim : Nat} {y : V} {l : List α} {bytes : Nat} (hy : LstV c H y l) (hlim : lim ≤ H.length) (hl : l.length ≤ 1000) (hb : bytes ≤ 1000) : ∃ v' H', vappend lim k bytes (H ++ [.row [] true]) (.sl H.length 0 0 k) y = some (v', H') ∧ OwnT H.length c H' v' l ∧ HX H H' := by
  have hy2 := hy.mono (H' := H ++ [.row [] true]) HX.push
  have hm : l.length * bytes ≤ 1000 * 1000 := Nat.mul_le_mul hl hb
  refine ⟨.sl (H.length + 1) 0 l.length k, (H ++ [Blk.row [] true]).set H.length .dead ++ [.row (c.all l) true], ?_, .row (by omega) ?_, ?_⟩
  · simp [vappend, hy2.cells, hy2.len, hlim, show l.length * bytes ≤ 140737488355328 by omega, show l.length < 4611686018427387904 by omega]
  · have : H.length + 1 = ((H ++ [Blk.row [] true]).set H.length .dead).length := by simp
    rw [this]; exact List.getElem?_concat_length
  · refine HX.of (by simp <;> omega) fun i hi => ?_
    rw [List.getElem?_append_left (by simp; omega), List.getElem?_set_ne (by omega), List.getElem?_append_left hi]
/-- no shift is shorter, nothing is due earlier -/
def lngJ (S : List Int) (j j' : Jb) : Prop := j' = j ∨ (j'.w = j.w ∧ j'.r = j.r ∧ j'.d = j.d + 1 ∧ j'.d < S.length)
section
variable {S S' : List Int} {J J' : List Jb}
theorem lng_val (hval : valJ S J = 0) (hlS : S'.length = S.length) (hgS : ∀ i, i < S.length → S.getD i 0 ≤ S'.getD i 0 ∧ S'.getD i 0 ≤ 1440) (hJ : ∀ i, i < J.length → lngJ S (J.getD i default) (J'.getD i default)) (hlJ : J'.length = J.length) : valJ S' J' = 0 := by
  obtain ⟨g1, g2, g3, g4⟩ := valJ_ok hval
  have h1 : ¬ (60 < S'.length ∨ 8 < J'.length) := by omega
  have h2 : allN (fun i => shfB (S'.getD i 0)) S'.length = true := allN_of fun i hi => by
    have := hgS i (by omega); have := g3 i (by omega)
    simp only [shfB, decide_eq_true_eq]; omega
  have h3 : allN (fun i => jobB S'.length (J'.getD i default)) J'.length = true := allN_of fun i hi => by
    have := g4 i (by omega)
    rcases hJ i (by omega) with e | ⟨e1, e2, e3, e4⟩
    · simp only [jobB, decide_eq_true_eq, e]; omega
    · simp only [jobB, decide_eq_true_eq, e1, e2]; omega
  simp only [valJ, h1, if_false, h2, h3, Bool.true_eq_false]
theorem lng_spare (hval : valJ S J = 0) (hlS : S'.length = S.length) (hgS : ∀ i, i < S.length → S.getD i 0 ≤ S'.getD i 0 ∧ S'.getD i 0 ≤ 1440) (hJ : ∀ i, i < J.length → lngJ S (J.getD i default) (J'.getD i default)) (hlJ : J'.length = J.length) {a b : Nat} (hb : b < S.length) : spareP S J a b ≤ spareP S' J' a b := by
  obtain ⟨g1, g2, g3, g4⟩ := valJ_ok hval
  unfold spareP
  rw [hlJ, sumW_N, sumW_N, inJ_N, inJ_N]
  by_cases hab : a ≤ b
  · have h1 := sumN_le (f := fun x => S.getD (a + x) 0) (g := fun x => S'.getD (a + x) 0) (n := b + 1 - a) fun x hx => (hgS (a + x) (by omega)).1
    have h2 := sumN_le (f := fun k => if (a : Int) ≤ (J'.getD k default).r ∧ (J'.getD k default).d ≤ b then (J'.getD k default).w else 0) (g := fun k => if (a : Int) ≤ (J.getD k default).r ∧ (J.getD k default).d ≤ b then (J.getD k default).w else 0) (n := J.length) fun k hk => by
      have := g4 k hk
      rcases hJ k hk with e | ⟨e1, e2, e3, e4⟩
      · rw [e]; exact Int.le_refl _
      · rw [e1, e2, e3]; split <;> split <;> omega
    omega
  · rw [show b + 1 - a = 0 by omega]
    have h2 := sumN_le (f := fun k => if (a : Int) ≤ (J'.getD k default).r ∧ (J'.getD k default).d ≤ b then (J'.getD k default).w else 0) (g := fun k => if (a : Int) ≤ (J.getD k default).r ∧ (J.getD k default).d ≤ b then (J.getD k default).w else 0) (n := J.length) fun k hk => by
      have := g4 k hk
      rcases hJ k hk with e | ⟨e1, e2, e3, e4⟩
      · rw [e]; exact Int.le_refl _
      · rw [e1, e2, e3]; split <;> split <;> omega
    simp only [sumN]; omega
/-- a plan stays possible -/
theorem lng_ok (hval : valJ S J = 0) (hlS : S'.length = S.length) (hgS : ∀ i, i < S.length → S.getD i 0 ≤ S'.getD i 0 ∧ S'.getD i 0 ≤ 1440) (hJ : ∀ i, i < J.length → lngJ S (J.getD i default) (J'.getD i default)) (hlJ : J'.length = J.length)
    {ok ok' : Bool} {Q Q' : List Slt} (hr : planR S J ok Q) (hr' : planR S' J' ok' Q') : valJ S' J' = 0 ∧ (ok' = true ∨ ok = false) := by
  have hv := lng_val hval hlS hgS hJ hlJ
  refine ⟨hv, ?_⟩
  rcases hr' with h | h | h
  · exact absurd hv h.1
  · right
    rcases hr with k | k | k
    · exact k.2.1
    · exact k.2.2.1
    · exfalso
      apply h.2.1
      rw [proofO_none hv]
      intro a b hab hb
      have h1 := (proofO_none hval).1 k.2.1 a b hab (by omega)
      have h2 := lng_spare hval hlS hgS hJ hlJ (a := a) (b := b) (by omega)
      omega
  · exact Or.inl h.2.2.1
theorem lng_J (hval : valJ S J = 0) {j : Nat} (hj : j < J.length) (hC : (J.getD j default).d + 1 < S.length) : ∀ i, i < J.length → lngJ S (J.getD i default) ((J.set j ⟨(J.getD j default).w, (J.getD j default).r, (J.getD j default).d + 1⟩).getD i default) := by
  intro i hi
  rw [setD_get hj]
  split
  · rename_i e; subst e; exact Or.inr ⟨rfl, rfl, rfl, hC⟩
  · exact Or.inl rfl
end
section
variable {lim : Nat} {H : Hp} {K : V → Hp → Prop} {sv jv qv : V} {S : List Int} {J : List Jb} {Q : List Slt} {x y : Int}
theorem law_PlotLonger {ws : List V} {p : Shp} (hv : ShpV H ws p) (hlim : lim ≤ H.length) (hx : I64 x) (hy : I64 y) (hK : ∀ H', K (.bool true) H') : VCall tbl lim 16 [.agg ws, .int .i64 x, .int .i64 y] H K := by
  cases hv with
  | mk hs hj =>
    rename_i sv jv S J
    refine VCall_fn tbl_at16 rfl ?_
    simp [vf16, hs.stor, hj.stor, hs.one]
    refine law_wide hs hj ?_
    by_cases hw : (decide (200 < S.length) || decide (30 < J.length)) = true
    · simp [hw]
      refine law_known hlim fun H1 _ => ?_
      simp; exact hK _
    simp [hw, hs.stor, hj.stor]
    refine plot_ValidateJobs hs hj ?_
    by_cases hval : valJ S J = 0
    case neg =>
      simp [hval]
      refine law_known hlim fun H1 _ => ?_
      simp; exact hK _
    obtain ⟨g1, g2, g3, g4⟩ := valJ_ok hval
    simp [hval, hs.stor, hj.stor]
    refine plot_Plan hs hj hlim fun H1 v ok P x1 hp hr => ?_
    replace x1 : HX H H1 := x1
    have l1 := x1.len
    obtain ⟨v10, H2, a1, o10, x2⟩ := vapp_e (v := sv) (lim := lim) (hs.mono x1) (by omega) (by omega)
    have l2 := x2.len
    obtain ⟨v11, H3, a2, o11, x3⟩ := vapp_t (lim := lim) (bytes := 24) ((hj.mono x1).mono x2) (by omega) (by omega) (by omega)
    have l3 := x3.len
    have b10 := o10.below
    replace o10 := o10.mono x3
    by_cases hA1 : 0 ≤ x
    · by_cases hB1 : x < S.length
      · obtain ⟨d, rfl⟩ := Int.eq_ofNat_of_zero_le hA1
        have hdl : d < S.length := by omega
        have gd := g3 d hdl
        have a4 := o10.sl.addr (i := d) (by omega)
        simp only [Int.toNat_natCast] at a4
        have hst1 := fun L => o10.store (lim := lim) (i := d) (x := min (S.getD d 0 + 30) 1440) (L := L) ⟨by omega, hdl⟩
        have op1 := o10.put (l' := S.set d (min (S.getD d 0 + 30) 1440)) (by simp)
        have hl4 := setH_len (cs := ints (S.set d (min (S.getD d 0 + 30) 1440))) o10
        have ot1 : OwnT H2.length jbC (setH H3 v10 (ints (S.set d (min (S.getD d 0 + 30) 1440)))) v11 J := o11.keepB fun b o m z e => setH_othB o10 fun o' z' y' e' => by
          have := b10 _ _ _ _ e'
          subst e
          cases o11 with
          | row h1 _ => omega
        have hB1' : d < S.length := hdl
        simp (disch := omega) [hval, a1, a2, hs.stor, hj.stor, vbslice_some, o10.sl.len, hA1, hB1', a4, o10.sl.load, lpId_ept, wrap_i64, hst1, -vstore]
        have hlS : (S.set d (min (S.getD d 0 + 30) 1440)).length = S.length := by simp
        have hgS : ∀ i, i < S.length → S.getD i 0 ≤ (S.set d (min (S.getD d 0 + 30) 1440)).getD i 0 ∧ (S.set d (min (S.getD d 0 + 30) 1440)).getD i 0 ≤ 1440 := fun i hi => by
          have := g3 i hi
          rw [getD_set hdl]
          split
          · rename_i e; subst e; omega
          · omega
        clear o10 o11
        have o10 := op1
        have o11 := ot1
        clear op1 ot1 a4
        by_cases hA : 0 ≤ y
        · by_cases hB : y < J.length
          · obtain ⟨j, rfl⟩ := Int.eq_ofNat_of_zero_le hA
            have hjl : j < J.length := by omega
            have gj := g4 j hjl
            have a3 := o11.lst.at hjl
            have f3 : ∀ q, vfaddr q (ept 3 v11 j) = some (eptf 3 v11 j q) := fun q => o11.lst.faddr hjl
            have r3 := fun L => jb_get (J := J) o11.lst hjl (j := 2) (by omega) (L := L)
            by_cases hC : (J.getD j default).d + 1 < S.length
            · have hB : j < J.length := hjl
              have hst := fun L => o11.store (lim := lim) (L := L) (i := j) (j := 2) (x := .int .i64 ((J.getD j default).d + 1)) (y := ⟨(J.getD j default).w, (J.getD j default).r, (J.getD j default).d + 1⟩) (sz := 1) (by omega) hjl rfl rfl (by omega) (by simp [jbC, Jb.cells, splice])
              have op := o11.put (l' := J.set j ⟨(J.getD j default).w, (J.getD j default).r, (J.getD j default).d + 1⟩) (by simp)
              have os := o10.sl.keepB (H' := setH (setH H3 v10 (ints (S.set d (min (S.getD d 0 + 30) 1440)))) v11 (jbC.all (J.set j ⟨(J.getD j default).w, (J.getD j default).r, (J.getD j default).d + 1⟩))) fun b o m z e => o11.setOld (by have := b10 _ _ _ _ e; omega)
              have hl := o11.setLen (cs := jbC.all (J.set j ⟨(J.getD j default).w, (J.getD j default).r, (J.getD j default).d + 1⟩))
              simp (disch := omega) [o11.lst.len, o10.sl.len, hlS, hB, a3, f3, r3, hC, wrap_i64, rd3_2, lpId_eptf, hst, os.stor, op.lst.stor, -vstore]
              refine plot_Plan os op.lst (by omega) fun H8 v8 ok8 P8 x8 hp8 hr8 => ?_
              replace x8 : HX _ H8 := x8
              have l8 := x8.len
              obtain ⟨q1, q2⟩ := lng_ok hval hlS hgS (lng_J hval hjl hC) (by simp) hr hr8
              rw [q1]
              rcases q2 with q2 | q2
              · subst q2
                simp
                refine law_known (by omega) fun H9 _ => ?_
                simp; exact hK _
              · subst q2
                cases ok8 <;> (simp; refine law_known (by omega) fun H9 _ => ?_; simp; exact hK _)
            · have hB : j < J.length := hjl
              simp (disch := omega) [o11.lst.len, o10.sl.len, hlS, hB, a3, f3, r3, hC, wrap_i64, rd3_2, lpId_eptf, o10.sl.stor, o11.lst.stor]
              refine plot_Plan o10.sl o11.lst (by omega) fun H8 v8 ok8 P8 x8 hp8 hr8 => ?_
              replace x8 : HX _ H8 := x8
              have l8 := x8.len
              obtain ⟨q1, q2⟩ := lng_ok hval hlS hgS (fun i hi => Or.inl rfl) rfl hr hr8
              rw [q1]
              rcases q2 with q2 | q2
              · subst q2
                simp
                refine law_known (by omega) fun H9 _ => ?_
                simp; exact hK _
              · subst q2
                cases ok8 <;> (simp; refine law_known (by omega) fun H9 _ => ?_; simp; exact hK _)
          · simp (disch := omega) [o11.lst.len, o10.sl.len, hlS, hA, hB, o10.sl.stor, o11.lst.stor]
            refine plot_Plan o10.sl o11.lst (by omega) fun H8 v8 ok8 P8 x8 hp8 hr8 => ?_
            replace x8 : HX _ H8 := x8
            have l8 := x8.len
            obtain ⟨q1, q2⟩ := lng_ok hval hlS hgS (fun i hi => Or.inl rfl) rfl hr hr8
            rw [q1]
            rcases q2 with q2 | q2
            · subst q2
              simp
              refine law_known (by omega) fun H9 _ => ?_
              simp; exact hK _
            · subst q2
              cases ok8 <;> (simp; refine law_known (by omega) fun H9 _ => ?_; simp; exact hK _)
        · simp (disch := omega) [o11.lst.len, o10.sl.len, hlS, hA, o10.sl.stor, o11.lst.stor]
          refine plot_Plan o10.sl o11.lst (by omega) fun H8 v8 ok8 P8 x8 hp8 hr8 => ?_
          replace x8 : HX _ H8 := x8
          have l8 := x8.len
          obtain ⟨q1, q2⟩ := lng_ok hval hlS hgS (fun i hi => Or.inl rfl) rfl hr hr8
          rw [q1]
          rcases q2 with q2 | q2
          · subst q2
            simp
            refine law_known (by omega) fun H9 _ => ?_
            simp; exact hK _
          · subst q2
            cases ok8 <;> (simp; refine law_known (by omega) fun H9 _ => ?_; simp; exact hK _)
      · have hlS : S.length = S.length := rfl
        have hgS : ∀ i, i < S.length → S.getD i 0 ≤ S.getD i 0 ∧ S.getD i 0 ≤ 1440 := fun i hi => ⟨Int.le_refl _, (g3 i hi).2⟩
        simp (disch := omega) [hval, a1, a2, hs.stor, hj.stor, vbslice_some, o10.sl.len, hA1, hB1]
        by_cases hA : 0 ≤ y
        · by_cases hB : y < J.length
          · obtain ⟨j, rfl⟩ := Int.eq_ofNat_of_zero_le hA
            have hjl : j < J.length := by omega
            have gj := g4 j hjl
            have a3 := o11.lst.at hjl
            have f3 : ∀ q, vfaddr q (ept 3 v11 j) = some (eptf 3 v11 j q) := fun q => o11.lst.faddr hjl
            have r3 := fun L => jb_get (J := J) o11.lst hjl (j := 2) (by omega) (L := L)
            by_cases hC : (J.getD j default).d + 1 < S.length
            · have hB : j < J.length := hjl
              have hst := fun L => o11.store (lim := lim) (L := L) (i := j) (j := 2) (x := .int .i64 ((J.getD j default).d + 1)) (y := ⟨(J.getD j default).w, (J.getD j default).r, (J.getD j default).d + 1⟩) (sz := 1) (by omega) hjl rfl rfl (by omega) (by simp [jbC, Jb.cells, splice])
              have op := o11.put (l' := J.set j ⟨(J.getD j default).w, (J.getD j default).r, (J.getD j default).d + 1⟩) (by simp)
              have os := o10.sl.keepB (H' := setH H3 v11 (jbC.all (J.set j ⟨(J.getD j default).w, (J.getD j default).r, (J.getD j default).d + 1⟩))) fun b o m z e => o11.setOld (by have := b10 _ _ _ _ e; omega)
              have hl := o11.setLen (cs := jbC.all (J.set j ⟨(J.getD j default).w, (J.getD j default).r, (J.getD j default).d + 1⟩))
              simp (disch := omega) [o11.lst.len, o10.sl.len, hB, a3, f3, r3, hC, wrap_i64, rd3_2, lpId_eptf, hst, os.stor, op.lst.stor, -vstore]
              refine plot_Plan os op.lst (by omega) fun H8 v8 ok8 P8 x8 hp8 hr8 => ?_
              replace x8 : HX _ H8 := x8
              have l8 := x8.len
              obtain ⟨q1, q2⟩ := lng_ok hval hlS hgS (lng_J hval hjl hC) (by simp) hr hr8
              rw [q1]
              rcases q2 with q2 | q2
              · subst q2
                simp
                refine law_known (by omega) fun H9 _ => ?_
                simp; exact hK _
              · subst q2
                cases ok8 <;> (simp; refine law_known (by omega) fun H9 _ => ?_; simp; exact hK _)
            · have hB : j < J.length := hjl
              simp (disch := omega) [o11.lst.len, o10.sl.len, hB, a3, f3, r3, hC, wrap_i64, rd3_2, lpId_eptf, o10.sl.stor, o11.lst.stor]
              refine plot_Plan o10.sl o11.lst (by omega) fun H8 v8 ok8 P8 x8 hp8 hr8 => ?_
              replace x8 : HX _ H8 := x8
              have l8 := x8.len
              obtain ⟨q1, q2⟩ := lng_ok hval hlS hgS (fun i hi => Or.inl rfl) rfl hr hr8
              rw [q1]
              rcases q2 with q2 | q2
              · subst q2
                simp
                refine law_known (by omega) fun H9 _ => ?_
                simp; exact hK _
              · subst q2
                cases ok8 <;> (simp; refine law_known (by omega) fun H9 _ => ?_; simp; exact hK _)
          · simp (disch := omega) [o11.lst.len, o10.sl.len, hA, hB, o10.sl.stor, o11.lst.stor]
            refine plot_Plan o10.sl o11.lst (by omega) fun H8 v8 ok8 P8 x8 hp8 hr8 => ?_
            replace x8 : HX _ H8 := x8
            have l8 := x8.len
            obtain ⟨q1, q2⟩ := lng_ok hval hlS hgS (fun i hi => Or.inl rfl) rfl hr hr8
            rw [q1]
            rcases q2 with q2 | q2
            · subst q2
              simp
              refine law_known (by omega) fun H9 _ => ?_
              simp; exact hK _
            · subst q2
              cases ok8 <;> (simp; refine law_known (by omega) fun H9 _ => ?_; simp; exact hK _)
        · simp (disch := omega) [o11.lst.len, o10.sl.len, hA, o10.sl.stor, o11.lst.stor]
          refine plot_Plan o10.sl o11.lst (by omega) fun H8 v8 ok8 P8 x8 hp8 hr8 => ?_
          replace x8 : HX _ H8 := x8
          have l8 := x8.len
          obtain ⟨q1, q2⟩ := lng_ok hval hlS hgS (fun i hi => Or.inl rfl) rfl hr hr8
          rw [q1]
          rcases q2 with q2 | q2
          · subst q2
            simp
            refine law_known (by omega) fun H9 _ => ?_
            simp; exact hK _
          · subst q2
            cases ok8 <;> (simp; refine law_known (by omega) fun H9 _ => ?_; simp; exact hK _)
    · have hlS : S.length = S.length := rfl
      have hgS : ∀ i, i < S.length → S.getD i 0 ≤ S.getD i 0 ∧ S.getD i 0 ≤ 1440 := fun i hi => ⟨Int.le_refl _, (g3 i hi).2⟩
      simp (disch := omega) [hval, a1, a2, hs.stor, hj.stor, vbslice_some, o10.sl.len, hA1]
      by_cases hA : 0 ≤ y
      · by_cases hB : y < J.length
        · obtain ⟨j, rfl⟩ := Int.eq_ofNat_of_zero_le hA
          have hjl : j < J.length := by omega
          have gj := g4 j hjl
          have a3 := o11.lst.at hjl
          have f3 : ∀ q, vfaddr q (ept 3 v11 j) = some (eptf 3 v11 j q) := fun q => o11.lst.faddr hjl
          have r3 := fun L => jb_get (J := J) o11.lst hjl (j := 2) (by omega) (L := L)
          by_cases hC : (J.getD j default).d + 1 < S.length
          · have hB : j < J.length := hjl
            have hst := fun L => o11.store (lim := lim) (L := L) (i := j) (j := 2) (x := .int .i64 ((J.getD j default).d + 1)) (y := ⟨(J.getD j default).w, (J.getD j default).r, (J.getD j default).d + 1⟩) (sz := 1) (by omega) hjl rfl rfl (by omega) (by simp [jbC, Jb.cells, splice])
            have op := o11.put (l' := J.set j ⟨(J.getD j default).w, (J.getD j default).r, (J.getD j default).d + 1⟩) (by simp)
            have os := o10.sl.keepB (H' := setH H3 v11 (jbC.all (J.set j ⟨(J.getD j default).w, (J.getD j default).r, (J.getD j default).d + 1⟩))) fun b o m z e => o11.setOld (by have := b10 _ _ _ _ e; omega)
            have hl := o11.setLen (cs := jbC.all (J.set j ⟨(J.getD j default).w, (J.getD j default).r, (J.getD j default).d + 1⟩))
            simp (disch := omega) [o11.lst.len, o10.sl.len, hB, a3, f3, r3, hC, wrap_i64, rd3_2, lpId_eptf, hst, os.stor, op.lst.stor, -vstore]
            refine plot_Plan os op.lst (by omega) fun H8 v8 ok8 P8 x8 hp8 hr8 => ?_
            replace x8 : HX _ H8 := x8
            have l8 := x8.len
            obtain ⟨q1, q2⟩ := lng_ok hval hlS hgS (lng_J hval hjl hC) (by simp) hr hr8
            rw [q1]
            rcases q2 with q2 | q2
            · subst q2
              simp
              refine law_known (by omega) fun H9 _ => ?_
              simp; exact hK _
            · subst q2
              cases ok8 <;> (simp; refine law_known (by omega) fun H9 _ => ?_; simp; exact hK _)
          · have hB : j < J.length := hjl
            simp (disch := omega) [o11.lst.len, o10.sl.len, hB, a3, f3, r3, hC, wrap_i64, rd3_2, lpId_eptf, o10.sl.stor, o11.lst.stor]
            refine plot_Plan o10.sl o11.lst (by omega) fun H8 v8 ok8 P8 x8 hp8 hr8 => ?_
            replace x8 : HX _ H8 := x8
            have l8 := x8.len
            obtain ⟨q1, q2⟩ := lng_ok hval hlS hgS (fun i hi => Or.inl rfl) rfl hr hr8
            rw [q1]
            rcases q2 with q2 | q2
            · subst q2
              simp
              refine law_known (by omega) fun H9 _ => ?_
              simp; exact hK _
            · subst q2
              cases ok8 <;> (simp; refine law_known (by omega) fun H9 _ => ?_; simp; exact hK _)
        · simp (disch := omega) [o11.lst.len, o10.sl.len, hA, hB, o10.sl.stor, o11.lst.stor]
          refine plot_Plan o10.sl o11.lst (by omega) fun H8 v8 ok8 P8 x8 hp8 hr8 => ?_
          replace x8 : HX _ H8 := x8
          have l8 := x8.len
          obtain ⟨q1, q2⟩ := lng_ok hval hlS hgS (fun i hi => Or.inl rfl) rfl hr hr8
          rw [q1]
          rcases q2 with q2 | q2
          · subst q2
            simp
            refine law_known (by omega) fun H9 _ => ?_
            simp; exact hK _
          · subst q2
            cases ok8 <;> (simp; refine law_known (by omega) fun H9 _ => ?_; simp; exact hK _)
      · simp (disch := omega) [o11.lst.len, o10.sl.len, hA, o10.sl.stor, o11.lst.stor]
        refine plot_Plan o10.sl o11.lst (by omega) fun H8 v8 ok8 P8 x8 hp8 hr8 => ?_
        replace x8 : HX _ H8 := x8
        have l8 := x8.len
        obtain ⟨q1, q2⟩ := lng_ok hval hlS hgS (fun i hi => Or.inl rfl) rfl hr hr8
        rw [q1]
        rcases q2 with q2 | q2
        · subst q2
          simp
          refine law_known (by omega) fun H9 _ => ?_
          simp; exact hK _
        · subst q2
          cases ok8 <;> (simp; refine law_known (by omega) fun H9 _ => ?_; simp; exact hK _)
end
end Go.Proofs.Ytdipmhdekjlifaa.Vm
