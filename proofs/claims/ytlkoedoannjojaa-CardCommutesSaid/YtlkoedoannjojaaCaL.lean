/- Package card over the machine: CardMissing. -/
import Derived.Test.YtlkoedoannjojaaCaK
namespace Go.Proofs.Ytlkoedoannjojaa.Vm
open Go
set_option maxRecDepth 100000
set_option linter.unusedSimpArgs false
set_option linter.unusedVariables false
attribute [-simp] List.getD_eq_getElem?_getD
section
variable {lim : Nat} {H : Hp} {K : V → Hp → Prop} {v w : V} {c l : List En} {e f : En} {s : ByteArray} {n x y z : Int}
theorem card_find (hc : LstV enC H v c) (hl : c.length ≤ 1000)
    (hyes : ∀ j, j < c.length → (c.getD j default).p = x → (c.getD j default).s = y → (∀ i, i < j → ¬ ((c.getD i default).p = x ∧ (c.getD i default).s = y)) → K (.tup [.agg (c.getD j default).cells, .bool true]) H)
    (hno : (∀ i, i < c.length → ¬ ((c.getD i default).p = x ∧ (c.getD i default).s = y)) → K (.tup [.agg En.zero.cells, .bool false]) H) : VCall tbl lim 73 [v, .int .i64 x, .int .i64 y] H K := by
  refine VCall_fn tbl_at73 rfl ?_
  simp [vf73, hc.len]
  refine wLoop_up c.length (fun i fr L H' => (fr 1 = .int .i64 x ∧ fr 2 = .int .i64 y ∧ fr 6 = .lp 0 0 ∧ fr 10 = v ∧ fr 11 = .int .i64 c.length ∧ fr 12 = .int .i64 i) ∧ (∃ X, L = En.zero.cells :: X) ∧ H' = H ∧ ∀ j, j < i → ¬ ((c.getD j default).p = x ∧ (c.getD j default).s = y)) ⟨by simp [hc.len], ⟨[], rfl⟩, rfl, fun j hj => by omega⟩ ?_
  rintro i hi fr L H' ⟨⟨f1, f2, f6, f10, f11, f12⟩, ⟨X, rfl⟩, e0, hz⟩
  have e0 := e0.symm
  subst e0
  simp [f1, f2, f6, f10, f11, f12]
  refine cond_dec (fun ht => ?_) fun hfl => ?_
  · have ht : i < c.length := by omega
    by_cases h1 : (c.getD i default).p = x
    · by_cases h2 : (c.getD i default).s = y
      · simp (disch := omega) [f1, f2, f6, f10, f11, f12, hc.at ht, en_load hc, lastO, lastS, eq_true h1, eq_true h2, En.zero, En.cells]
        exact hyes i ht h1 h2 hz
      · simp (disch := omega) [f1, f2, f6, f10, f11, f12, hc.at ht, en_load hc, lastO, lastS, eq_true h1, eq_false h2, wrap_i64]
        refine ⟨by omega, fun j hj => ?_⟩
        by_cases e : j = i
        · subst e; exact fun _ h => h2 h
        · exact fun h h' => hz j (by omega) ⟨h, h'⟩
    · simp (disch := omega) [f1, f2, f6, f10, f11, f12, hc.at ht, en_load hc, lastO, lastS, eq_false h1, wrap_i64]
      refine ⟨by omega, fun j hj => ?_⟩
      by_cases e : j = i
      · subst e; exact fun h _ => h1 h
      · exact fun h h' => hz j (by omega) ⟨h, h'⟩
  have : i = c.length := by omega
  subst this
  simp [f6, En.zero, En.cells]
  exact hno hz
/-- a card and what it had at a clock -/
theorem card_compare {F : List En} {g : Nat → Bool} (hF : F = filE g c c.length) (hval : valE c = 0) (hvF : valE F = 0) (hc : LstV enC H v c) (hw : LstV enC H w F) (hsh : shortC c) (hlim : lim ≤ H.length)
    (hK : ∀ H' b u lb lu, HX H H' → LstV enC H' b lb → LstV enC H' u lu → K (.tup [b, u, .snil, .int .i64 0]) H') : VCall tbl lim 59 [v, w] H K := by
  have hshF : shortC F := by rw [hF]; exact filE_short hsh
  have hl := valE_small hval
  have hlF := valE_small hvF
  refine VCall_fn tbl_at59 rfl ?_
  simp [vf59, hc.stor, hw.stor]
  refine card_Validate hc hsh fun H1 x1 => ?_
  have hc1 := hc.mono x1
  have hw1 := hw.mono x1
  have l1 := x1.len
  simp [hval, hw.stor]
  refine card_Validate hw1 hshF fun H2 x2 => ?_
  have hc2 := hc1.mono x2
  have hw2 := hw1.mono x2
  have l2 := x2.len
  have x02 := x1.trans x2
  simp [hvF, hc.len]
  refine wLoop_up c.length (fun i fr L H' => ∃ b u lb lu, (fr 0 = v ∧ fr 1 = w ∧ fr 6 = .snil ∧ fr 28 = v ∧ fr 29 = .int .i64 c.length ∧ fr 30 = .int .i64 i ∧ fr 4 = b ∧ fr 5 = u) ∧ HX H2 H' ∧ OwnT H2.length enC H' b lb ∧ OwnT H2.length enC H' u lu ∧ Apart b u ∧ lb.length ≤ i ∧ lu.length ≤ i) ⟨.snil, .snil, [], [], by simp [hc.len], HX.refl, .nil, .nil, fun b o z y b' o' z' y' h => (by cases h), by simp, by simp⟩ ?_
  rintro i hi fr L H' ⟨b, u, lb, lu, ⟨f0, f1, f6, f28, f29, f30, f4, f5⟩, hx, ob, ou, hap, nb, nu⟩
  simp [f0, f1, f6, f28, f29, f30, f4, f5]
  refine cond_dec (fun ht => ?_) fun hfl => ?_
  · have ht : i < c.length := by omega
    have hc' := hc2.mono hx
    have hw' := hw2.mono hx
    have hxl := hx.len
    have bb := ob.below
    have bu := ou.below
    simp (disch := omega) [f0, f1, f6, f28, f29, f30, f4, f5, hc'.at ht, en_load hc', lastO, lastS, hw.stor]
    refine card_find hw' (by omega) (fun j hj hp hs _ => ?_) fun hno => ?_
    · have e1 : F.getD j default = c.getD i default := by
        subst hF
        obtain ⟨m, m1, m2, m3⟩ := filE_mem hj
        rw [m3] at hp hs ⊢
        rw [val_uniq hval m1 ht hp hs]
      rw [e1]
      obtain ⟨v', H3, b1, b2, b3, b5, b6, b7⟩ := ob.appendF (lim := lim) (bytes := 56) (x := c.getD i default) (cs := [.int .i64 (c.getD i default).p, .int .i64 (c.getD i default).s, .int .i64 (c.getD i default).a, .int .i64 (c.getD i default).b, .int .i64 (c.getD i default).c, .str (c.getD i default).t]) rfl ⟨by omega, hxl⟩ (by omega) (by omega)
      simp (disch := omega) [f0, f1, f6, f28, f29, f30, f4, f5, lastO, lastS, loAt, loAt0, En.cells, veqA_6, enEq_refl, vbslice_some, b1, wrap_i64]
      refine ⟨by omega, _, _, ⟨rfl, rfl⟩, b3 _ hx (Nat.le_refl _), _, b2, _, ou.keepB fun q o m z e => b6 q (bu _ _ _ _ e) fun o' z' y' e' => hap _ _ _ _ _ _ _ _ e' e rfl, fun q o z y q' o' z' y' h h' => ?_, by simp; omega, by omega⟩
      have := b7 _ _ _ _ h
      have := bu _ _ _ _ h'
      omega
    · obtain ⟨v', H3, b1, b2, b3, b5, b6, b7⟩ := ou.appendF (lim := lim) (bytes := 56) (x := c.getD i default) (cs := [.int .i64 (c.getD i default).p, .int .i64 (c.getD i default).s, .int .i64 (c.getD i default).a, .int .i64 (c.getD i default).b, .int .i64 (c.getD i default).c, .str (c.getD i default).t]) rfl ⟨by omega, hxl⟩ (by omega) (by omega)
      simp (disch := omega) [f0, f1, f6, f28, f29, f30, f4, f5, lastO, lastS, loAt, loAt0, En.cells, En.zero, vbslice_some, b1, wrap_i64]
      refine ⟨by omega, _, _, ⟨rfl, rfl⟩, b3 _ hx (Nat.le_refl _), _, ob.keepB fun q o m z e => b6 q (bb _ _ _ _ e) fun o' z' y' e' => hap _ _ _ _ _ _ _ _ e e' rfl, _, b2, fun q o z y q' o' z' y' h h' => ?_, by omega, by simp; omega⟩
      have := b7 _ _ _ _ h'
      have := bb _ _ _ _ h
      omega
  have : i = c.length := by omega
  subst this
  have hc' := hc2.mono hx
  have hw' := hw2.mono hx
  simp [f1, hw.len]
  refine wLoop_up F.length (fun i fr L H1 => (fr 0 = v ∧ fr 4 = b ∧ fr 5 = u ∧ fr 6 = .snil ∧ fr 59 = w ∧ fr 60 = .int .i64 F.length ∧ fr 61 = .int .i64 i) ∧ H1 = H') ⟨by simp [f0, f4, f5, f6, f1, hw.len], rfl⟩ ?_
  clear f0 f1 f6 f28 f29 f30 f4 f5
  rintro i hi fr L H1 ⟨⟨f0, f4, f5, f6, f59, f60, f61⟩, e0⟩
  have e0 := e0.symm
  subst e0
  simp [f0, f4, f5, f6, f59, f60, f61]
  refine cond_dec (fun ht => ?_) fun hfl => ?_
  · have ht : i < F.length := by omega
    have hht := ht
    rw [hF] at hht
    obtain ⟨m, m1, m2, m3⟩ := filE_mem hht
    rw [← hF] at m3
    simp (disch := omega) [f0, f4, f5, f6, f59, f60, f61, hw'.at ht, en_load hw', lastO, lastS, hc.stor]
    refine card_find hc' (by omega) (fun j hj hp hs _ => ?_) fun hno => ?_
    · simp (disch := omega) [f0, f4, f5, f6, f59, f60, f61, lastO, lastS, loAt, loAt0, En.cells, wrap_i64]
      omega
    · exact absurd ⟨by rw [m3], by rw [m3]⟩ (hno m m1)
  simp [f4, f5, f6, ob.lst.stor, ou.lst.stor]
  exact hK _ _ _ _ _ (x02.trans hx) ob.lst ou.lst
theorem card_Relation {F : List En} {g : Nat → Bool} (hF : F = filE g c c.length) (hval : valE c = 0) (hvF : valE F = 0) (hc : LstV enC H v c) (hw : LstV enC H w F) (hsh : shortC c) (hlim : lim ≤ H.length)
    (hK : ∀ H' r, HX H H' → r = 0 ∨ r = 1 → K (.tup [.int .i64 r, .int .i64 0]) H') : VCall tbl lim 33 [v, w] H K := by
  refine VCall_fn tbl_at33 rfl ?_
  simp [vf33, hc.stor, hw.stor]
  refine card_compare hF hval hvF hc hw hsh hlim fun H' b u lb lu hx hb hu => ?_
  by_cases h : 0 < lu.length
  · simp [hb.stor, hb.one, hu.stor, hu.one, hu.len, h]
    exact hK _ _ hx (Or.inr rfl)
  · simp [hb.stor, hb.one, hu.stor, hu.one, hu.len, h]
    exact hK _ _ hx (Or.inl rfl)
theorem law_CardMissing (hv : EnsV H v c ∧ c.length ≤ maxLen) (hlim : lim ≤ H.length) (h1 : I64 x) (h2 : I64 y) (h3 : I64 z) (hK : ∀ H', K (.bool true) H') : VCall tbl lim 9 [v, .agg [.int .i64 x, .int .i64 y, .int .i64 z]] H K := by
  have hc := hv.1.1
  refine VCall_fn tbl_at9 rfl ?_
  simp [vf9, hc.stor]
  refine law_Long hc ?_
  cases hl : longC c
  · have hsh := long_short hl
    simp [hc.stor]
    refine card_Missing hc hsh hlim fun H1 w1 x1 o1 => ?_
    have hc1 := hc.mono x1
    have l1 := x1.len
    simp [hc.stor, o1.stor, o1.one]
    refine ref_Missing hc1 hsh (by omega) fun H2 w2 x2 o2 => ?_
    have hc2 := hc1.mono x2
    have l2 := x2.len
    have o1 := o1.mono x2
    simp [hc.stor, o1.stor, o1.one, o2.stor, o2.one]
    refine card_At hc2 hsh (by omega) fun H3 w3 x3 o3 => ?_
    have hc3 := hc2.mono x3
    have l3 := x3.len
    have o1 := o1.mono x3
    have o2 := o2.mono x3
    simp [hc.stor, o1.stor, o1.one, o2.stor, o2.one, o3.stor, o3.one]
    refine ref_At hc3 hsh (by omega) fun H4 w4 x4 o4 => ?_
    have hc4 := hc3.mono x4
    have l4 := x4.len
    have o1 := o1.mono x4
    have o2 := o2.mono x4
    have o3 := o3.mono x4
    have hml : (missL c x y z).length ≤ 100 := by
      unfold missL; split
      · exact Nat.le_trans filE_len hsh.1
      · simp
    have hal : (atL c x y z).length ≤ 100 := by
      unfold atL; split
      · exact Nat.le_trans filE_len hsh.1
      · simp
    simp [hc.stor, o1.stor, o1.one, o2.stor, o2.one, o3.stor, o3.one, o4.stor, o4.one]
    refine ref_Same o1 o2 (by omega) ?_
    simp [hc.stor, o1.stor, o1.one, o2.stor, o2.one, o3.stor, o3.one, o4.stor, o4.one]
    refine ref_Same o3 o4 (by omega) ?_
    by_cases h : atE c x y z = 0
    · obtain ⟨g1, g2, g3⟩ := at_val h
      have e1 : atL c x y z = cutL c x y z := if_pos h
      have hcs : shortC (cutL c x y z) := filE_short hsh
      rw [e1] at o3 o4 hal
      simp [h, o3.stor]
      refine card_Clock o3 hcs fun H5 x5 => ?_
      have hc5 := hc4.mono x5
      have o1 := o1.mono x5
      have o3 := o3.mono x5
      have l5 := x5.len
      rw [g2, g3]
      simp [hc.stor, o3.stor]
      refine card_Relation (F := cutL c x y z) (g := upto (kq x y z) c) rfl g1 g2 hc5 o3 hsh (by omega) fun H6 r x6 hr => ?_
      have o1 := o1.mono x6
      have o3 := o3.mono x6
      have l6 := x6.len
      simp [o3.stor]
      refine card_Validate o3 hcs fun H7 x7 => ?_
      have l7 := x7.len
      have hm := miss_len (x := x) (y := y) (z := z) g1
      have hcl := hsh.1
      have em : ((missL c x y z).length : Int) + ((cutL c x y z).length : Int) = (c.length : Int) := by omega
      rcases hr with rfl | rfl
      · simp (disch := omega) [g2, veqA_3, o1.len, o3.len, hc.len, wrap_i64, em]
        refine law_known (by omega) fun H8 _ => ?_
        simp
        exact hK _
      · simp (disch := omega) [g2, veqA_3, o1.len, o3.len, hc.len, wrap_i64, em]
        refine law_known (by omega) fun H8 _ => ?_
        simp
        exact hK _
    · simp [eq_false h]
      refine law_known (by omega) fun H5 _ => ?_
      simp
      exact hK _
  · simp
    refine law_known hlim fun H' _ => ?_
    simp
    exact hK _
end
end Go.Proofs.Ytlkoedoannjojaa.Vm
