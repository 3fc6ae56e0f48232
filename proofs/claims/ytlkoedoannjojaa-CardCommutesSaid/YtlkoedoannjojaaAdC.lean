/- Package card over the machine: CardAdds. -/
import Derived.Test.YtlkoedoannjojaaAdB
namespace Go.Proofs.Ytlkoedoannjojaa.Vm
open Go
set_option maxRecDepth 100000
set_option linter.unusedSimpArgs false
set_option linter.unusedVariables false
attribute [-simp] List.getD_eq_getElem?_getD
section
variable {lim : Nat} {H : Hp} {K : V → Hp → Prop} {v w : V} {c l : List En} {e f : En} {x y u q : Int} {t : ByteArray}
theorem law_spoil {m : Nat} (ho : OwnT m enC H w l) (hlim : lim ≤ m) (hl : l.length ≤ 1000) (hK : ∀ H', (∀ H0, HX H0 H → H0.length ≤ m → HX H0 H') → H'.length = H.length → K (.tup []) H') : VCall tbl lim 21 [w] H K := by
  refine VCall_fn tbl_at21 rfl ?_
  simp [vf21]
  refine wLoop_up l.length (fun i fr L H' => (fr 0 = w ∧ fr 2 = .int .i64 i) ∧ (∃ l', l'.length = l.length ∧ OwnT m enC H' w l') ∧ (∀ H0, HX H0 H → H0.length ≤ m → HX H0 H') ∧ H'.length = H.length) ⟨by simp, ⟨l, rfl, ho⟩, fun H0 h _ => h, rfl⟩ ?_
  rintro i hi fr L H' ⟨⟨f0, f2⟩, ⟨l', hl', ho'⟩, hx, hlen⟩
  simp [f0, f2, ho'.lst.len, hl']
  refine cond_dec (fun ht => ?_) fun hfl => ?_
  · have ht : i < l'.length := by omega
    have st := fun L => ho'.store (lim := lim) (i := i) (j := 1) (x := .int .i64 (-1)) (y := ⟨(l'.getD i default).p, -1, (l'.getD i default).a, (l'.getD i default).b, (l'.getD i default).c, (l'.getD i default).t⟩) (L := L) (sz := 1) hlim ht rfl rfl (by omega) (by
      show En.cells _ = splice (l'.getD i default).cells 1 [.int .i64 (-1)]
      simp [En.cells, splice])
    have o2 := ho'.put (l' := l'.set i ⟨(l'.getD i default).p, -1, (l'.getD i default).a, (l'.getD i default).b, (l'.getD i default).c, (l'.getD i default).t⟩) (by simp)
    simp (disch := omega) [f0, f2, ho'.lst.at ht, ho'.lst.faddr ht, st, wrap_i64, -vstore]
    exact ⟨by omega, ⟨_, by simp [hl'], o2⟩, fun H0 h1 h2 => ho'.setX (hx H0 h1 h2) h2, by rw [ho'.setLen]; exact hlen⟩
  have : i = l.length := by omega
  subst this
  simp
  exact hK _ hx hlen
theorem law_CardAdds (hv : EnsV H v c ∧ c.length ≤ maxLen) (hlim : lim ≤ H.length) (hq : I64 q) (ht : t.size ≤ maxLen) (hK : ∀ H', K (.bool true) H') : VCall tbl lim 4 [v, .int .i64 q, .str t] H K := by
  have hc := hv.1.1
  refine VCall_fn tbl_at4 rfl ?_
  simp [vf4, hc.stor]
  refine law_Long hc ?_
  cases hl : longC c
  · have hsh := long_short hl
    have hcl := hsh.1
    by_cases ht2 : 200 < t.size
    · simp [show (200 : Int) < t.size by omega, ht2]
      refine law_known hlim fun H' _ => ?_
      simp
      exact hK _
    simp [show ¬ (200 : Int) < t.size by omega, ht2, hc.stor]
    refine law_copied hc hlim (by omega) fun H1 w1 x1 o1 => ?_
    replace x1 : HX H H1 := x1
    have hc1 := hc.mono x1
    have l1 := x1.len
    simp [o1.lst.stor]
    refine card_Add o1.lst hsh (by omega) (by omega) fun H2 w2 x2 o2 => ?_
    replace x2 : HX H1 H2 := x2
    have hc2 := hc1.mono x2
    have l2 := x2.len
    simp [hc.stor, o2.lst.stor, o2.lst.one]
    refine ref_Add hc2 hsh (by omega) (by omega) fun H3 w3 x3 o3 => ?_
    replace x3 : HX H2 H3 := x3
    have l3 := x3.len
    have o2 := o2.mono x3
    have hal : (addL c q t).length ≤ 1000 := by
      unfold addL; split
      · rename_i h
        obtain ⟨h1, h2, h3, h4⟩ := add_ok h
        rw [(adL_perm h1 h2).length_eq]; simp; omega
      · simp
    simp [o2.lst.stor, o3.lst.stor, o3.lst.one]
    refine ref_Same o2.lst o3.lst hal ?_
    by_cases h : addE c q t = 0
    · simp [h, o2.lst.stor]
      have has : shortC (addL c q t) := by
        obtain ⟨h1, h2, h3, h4⟩ := add_ok h
        refine ⟨by have := valE_small (add_val h); omega, fun i hi => ?_⟩
        have hm := getD_mem hi
        rw [show addL c q t = adL c q t 3 from if_pos h] at hm ⊢
        rcases List.mem_append.1 ((adL_perm h1 h2).mem_iff.1 hm) with hm | hm
        · obtain ⟨j, hj, e⟩ := mem_getD hm
          rw [← e]; exact hsh.2 j hj
        · rw [List.mem_singleton.1 hm]; simp only [nextE]; omega
      refine card_Validate o2.lst has fun H4 x4 => ?_
      replace x4 : HX H3 H4 := x4
      have l4 := x4.len
      rw [add_val h]
      simp [o2.lst.stor]
      refine law_spoil (o2.mono x4) (by omega) hal fun H5 x5 e5 => ?_
      have x15 := x5 H1 (x2.trans (x3.trans x4)) (Nat.le_refl _)
      have l5 := x15.len
      have o1' := o1.lst.mono x15
      have hc5 := hc1.mono x15
      simp [o1.lst.stor, hc.stor]
      refine ref_Same o1' hc5 (by omega) ?_
      simp
      refine law_known (by omega) fun H6 _ => ?_
      simp
      exact hK _
    · simp [eq_false h, o2.lst.stor]
      refine law_spoil o2 (by omega) hal fun H5 x5 e5 => ?_
      have x15 := x5 H1 (x2.trans x3) (Nat.le_refl _)
      have l5 := x15.len
      have o1' := o1.lst.mono x15
      have hc5 := hc1.mono x15
      simp [o1.lst.stor, hc.stor]
      refine ref_Same o1' hc5 (by omega) ?_
      simp
      refine law_known (by omega) fun H6 _ => ?_
      simp
      exact hK _
  · simp
    refine law_known hlim fun H' _ => ?_
    simp
    exact hK _
end
end Go.Proofs.Ytlkoedoannjojaa.Vm
