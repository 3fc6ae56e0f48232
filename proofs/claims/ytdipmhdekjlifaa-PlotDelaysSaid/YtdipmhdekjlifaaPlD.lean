/- Package plot over the machine: the wearings at a minute; PlotCrowds. -/
import Derived.Test.YtdipmhdekjlifaaPlC
namespace Go.Proofs.Ytdipmhdekjlifaa.Vm
open Go
set_option maxRecDepth 100000
set_option linter.unusedSimpArgs false
set_option linter.unusedVariables false
attribute [-simp] List.getD_eq_getElem?_getD
/-- a wearing occupies a wig of a size at a minute -/
def inB (p : Ply) (s a : Int) (w : Wr) : Bool := decide (w.s = s) && (decide (w.f ≤ a) && decide (a < w.t + p.rd))
def crowdN (p : Ply) (s a : Int) (n : Nat) : List Nat := (List.range n).filter fun i => inB p s a (p.W.getD i default)
def crowdL (p : Ply) (s a : Int) (n : Nat) : List Int := (crowdN p s a n).map Int.ofNat
theorem crowdL_succ {p : Ply} {s a : Int} {n : Nat} : crowdL p s a (n + 1) = if inB p s a (p.W.getD n default) = true then crowdL p s a n ++ [(n : Int)] else crowdL p s a n := by
  simp only [crowdL, crowdN, List.range_succ, List.filter_append, List.map_append]
  by_cases h : inB p s a (p.W.getD n default) = true
  · simp [h]
  · simp [h]
theorem crowdL_le {p : Ply} {s a : Int} : ∀ {n : Nat}, (crowdL p s a n).length ≤ n
  | 0 => by simp [crowdL, crowdN]
  | n + 1 => by
    rw [crowdL_succ]
    have := crowdL_le (p := p) (s := s) (a := a) (n := n)
    split
    · simp; omega
    · omega
theorem crowdL_mem {p : Ply} {s a : Int} {n : Nat} {x : Int} (h : x ∈ crowdL p s a n) : ∃ i : Nat, x = i ∧ i < n ∧ inB p s a (p.W.getD i default) = true := by
  simp only [crowdL, crowdN, List.mem_map, List.mem_filter, List.mem_range] at h
  obtain ⟨i, ⟨h1, h2⟩, rfl⟩ := h
  exact ⟨i, rfl, h1, h2⟩
theorem inB_clash {p : Ply} {s a : Int} {v w : Wr} (hv : inB p s a v = true) (hw : inB p s a w = true) : clashB p v w = true := by
  simp only [inB, Bool.and_eq_true, decide_eq_true_eq] at hv hw
  have : tightB v w p.rd = true := by
    unfold tightB
    split
    · simp only [decide_eq_true_eq]; omega
    · split
      · simp only [decide_eq_true_eq]; omega
      · rfl
  simp [clashB, this]
def eqL (l m : List Int) : Bool := decide (l = m)
section
variable {lim : Nat} {H : Hp} {K : V → Hp → Prop} {wv : V} {W : List Wr} {r c s a : Int} {v w : Wr} {i k : Int}
theorem plot_crowd (hw : LstV wrC H wv W) (hval : valP ⟨W, r, c⟩ = 0) (hlim : lim ≤ H.length) (hK : ∀ H' v, HX H H' → OwnV H.length H' v (crowdL ⟨W, r, c⟩ s a W.length) → K v H') :
    VCall tbl lim 64 [.agg [wv, .int .i64 r, .int .i64 c], .agg [.int .i64 s, .int .i64 a]] H K := by
  refine VCall_fn tbl_at64 rfl ?_
  obtain ⟨g1, g2, g3, g4, g5⟩ := valP_ok hval
  simp only at g1 g2 g3 g4 g5
  simp [vf64, hw.len, hw.one, hw.stor]
  refine wLoop_up W.length (fun i fr L H' => ∃ u, (fr 2 = .lp 0 0 ∧ fr 3 = .lp 1 0 ∧ fr 9 = wv ∧ fr 10 = .int .i64 W.length ∧ fr 11 = .int .i64 i ∧ fr 5 = u) ∧ L[0]? = some [wv, .int .i64 r, .int .i64 c] ∧ L[1]? = some [.int .i64 s, .int .i64 a] ∧ HX H H' ∧ OwnV H.length H' u (crowdL ⟨W, r, c⟩ s a i)) ⟨.snil, by simp, rfl, rfl, HX.refl, .nil⟩ ?_
  rintro i hi fr L H' ⟨u, ⟨f2, f3, f9, f10, f11, f5⟩, l0, l1, hx, hu⟩
  have hxl := hx.len
  have hcl := crowdL_le (p := ⟨W, r, c⟩) (s := s) (a := a) (n := i)
  simp [f2, f3, f9, f10, f11, f5]
  refine cond_dec (fun ht => ?_) fun hfl => ?_
  · have ht : i < W.length := by omega
    have hb := wrB_spec (g4 i ht)
    by_cases e : (W.getD i default).s = s
    · simp (disch := omega) [f2, f3, f9, f10, f11, f5, hw.at ht, wr_load (hw.mono hx), lastO, lastS, splice44, iz4, keepL l0, keepL l1, eq_true e, wrap_i64, rd_two0, rd_two1]
      refine cond_bool (fun hb => ?_) fun hb => ?_
      · have hin : inB ⟨W, r, c⟩ s a (W.getD i default) = true := by simpa [inB, eq_true e] using hb
        have e2 := crowdL_succ (p := ⟨W, r, c⟩) (s := s) (a := a) (n := i)
        simp only [hin, if_true] at e2
        simp (disch := omega) [f2, f3, f9, f10, f11, f5, wrap_i64, vbslice_some, hu.append (lim := lim) (x := i) ⟨by omega, by omega⟩, keepL l0, keepL l1]
        refine ⟨by omega, hu.apX hx (Nat.le_refl _), ?_⟩
        rw [e2]
        have := hu.ap hxl (x := i) (new := [.int .i64 i])
        simpa using this
      · have hin : inB ⟨W, r, c⟩ s a (W.getD i default) = false := by simpa [inB, eq_true e] using hb
        have e2 := crowdL_succ (p := ⟨W, r, c⟩) (s := s) (a := a) (n := i)
        simp only [hin, Bool.false_eq_true, if_false] at e2
        simp (disch := omega) [f2, f3, f9, f10, f11, f5, wrap_i64, keepL l0, keepL l1, e2]
        exact ⟨by omega, hx, hu⟩
    · have hin : inB ⟨W, r, c⟩ s a (W.getD i default) = false := by simp [inB, eq_false e]
      have e2 := crowdL_succ (p := ⟨W, r, c⟩) (s := s) (a := a) (n := i)
      simp only [hin, Bool.false_eq_true, if_false] at e2
      simp (disch := omega) [f2, f3, f9, f10, f11, f5, hw.at ht, wr_load (hw.mono hx), lastO, lastS, splice44, iz4, keepL l0, keepL l1, eq_false e, wrap_i64, rd_two0, rd_two1, e2]
      exact ⟨by omega, hx, hu⟩
  · have : i = W.length := by omega
    subst this
    simp [f5, hu.sl.stor]
    exact hK _ _ hx hu
theorem ref_crowd (hw : LstV wrC H wv W) (hval : valP ⟨W, r, c⟩ = 0) (hlim : lim ≤ H.length) (hK : ∀ H' v, HX H H' → OwnV H.length H' v (crowdL ⟨W, r, c⟩ s a W.length) → K v H') :
    VCall tbl lim 63 [.agg [wv, .int .i64 r, .int .i64 c], .agg [.int .i64 s, .int .i64 a]] H K := by
  refine VCall_fn tbl_at63 rfl ?_
  obtain ⟨g1, g2, g3, g4, g5⟩ := valP_ok hval
  simp only at g1 g2 g3 g4 g5
  simp [vf63, hw.len, hw.one, hw.stor]
  refine wLoop_up W.length (fun i fr L H' => ∃ u, (fr 2 = .lp 0 0 ∧ fr 3 = .lp 1 0 ∧ fr 6 = .int .i64 i ∧ fr 5 = u) ∧ L[0]? = some [wv, .int .i64 r, .int .i64 c] ∧ L[1]? = some [.int .i64 s, .int .i64 a] ∧ HX H H' ∧ OwnV H.length H' u (crowdL ⟨W, r, c⟩ s a i)) ⟨.snil, by simp, rfl, rfl, HX.refl, .nil⟩ ?_
  rintro i hi fr L H' ⟨u, ⟨f2, f3, f6, f5⟩, l0, l1, hx, hu⟩
  have hxl := hx.len
  have hcl := crowdL_le (p := ⟨W, r, c⟩) (s := s) (a := a) (n := i)
  simp [f2, f3, f6, f5, l0, hw.len]
  refine cond_dec (fun ht => ?_) fun hfl => ?_
  · have ht : i < W.length := by omega
    have hb := wrB_spec (g4 i ht)
    by_cases e : (W.getD i default).s = s
    · simp (disch := omega) [f2, f3, f6, f5, l0, hw.at ht, wr_load (hw.mono hx), lastO, lastS, splice44, iz4, keepL l0, keepL l1, eq_true e, wrap_i64, rd_two0, rd_two1]
      refine cond_bool (fun hb => ?_) fun hb => ?_
      · have hin : inB ⟨W, r, c⟩ s a (W.getD i default) = true := by simpa [inB, eq_true e] using hb
        have e2 := crowdL_succ (p := ⟨W, r, c⟩) (s := s) (a := a) (n := i)
        simp only [hin, if_true] at e2
        simp (disch := omega) [f2, f3, f6, f5, wrap_i64, vbslice_some, hu.append (lim := lim) (x := i) ⟨by omega, by omega⟩, keepL l0, keepL l1]
        refine ⟨by omega, hu.apX hx (Nat.le_refl _), ?_⟩
        rw [e2]
        have := hu.ap hxl (x := i) (new := [.int .i64 i])
        simpa using this
      · have hin : inB ⟨W, r, c⟩ s a (W.getD i default) = false := by simpa [inB, eq_true e] using hb
        have e2 := crowdL_succ (p := ⟨W, r, c⟩) (s := s) (a := a) (n := i)
        simp only [hin, Bool.false_eq_true, if_false] at e2
        simp (disch := omega) [f2, f3, f6, f5, wrap_i64, keepL l0, keepL l1, e2]
        exact ⟨by omega, hx, hu⟩
    · have hin : inB ⟨W, r, c⟩ s a (W.getD i default) = false := by simp [inB, eq_false e]
      have e2 := crowdL_succ (p := ⟨W, r, c⟩) (s := s) (a := a) (n := i)
      simp only [hin, Bool.false_eq_true, if_false] at e2
      simp (disch := omega) [f2, f3, f6, f5, l0, hw.at ht, wr_load (hw.mono hx), lastO, lastS, splice44, iz4, keepL l0, keepL l1, eq_false e, wrap_i64, rd_two0, rd_two1, e2]
      exact ⟨by omega, hx, hu⟩
  · have : i = W.length := by omega
    subst this
    simp [f5, hu.sl.stor]
    exact hK _ _ hx hu
def crowdR (p : Ply) (s a : Int) : List Int := if valP p = 0 then crowdL p s a p.W.length else []
theorem plot_Crowd (hw : LstV wrC H wv W) (hlim : lim ≤ H.length) (hK : ∀ H' v, HX H H' → OwnV H.length H' v (crowdR ⟨W, r, c⟩ s a) → K (.tup [v, .int .i64 (valP ⟨W, r, c⟩)]) H') :
    VCall tbl lim 32 [.agg [wv, .int .i64 r, .int .i64 c], .agg [.int .i64 s, .int .i64 a]] H K := by
  refine VCall_fn tbl_at32 rfl ?_
  simp [vf32, hw.one, hw.stor]
  refine plot_Validate hw ?_
  by_cases hval : valP ⟨W, r, c⟩ = 0
  · simp [hval, hw.stor, rd_two]
    refine plot_crowd hw hval hlim fun H' v hx hv => ?_
    simp [hv.sl.stor]
    have := hK H' v hx (by simpa [crowdR, hval] using hv)
    rw [hval] at this
    exact this
  · simp [hval]
    exact hK H .snil HX.refl (by simp only [crowdR, hval, if_false]; exact .nil)
theorem ref_Crowd (hw : LstV wrC H wv W) (hlim : lim ≤ H.length) (hK : ∀ H' v, HX H H' → OwnV H.length H' v (crowdR ⟨W, r, c⟩ s a) → K (.tup [v, .int .i64 (valP ⟨W, r, c⟩)]) H') :
    VCall tbl lim 33 [.agg [wv, .int .i64 r, .int .i64 c], .agg [.int .i64 s, .int .i64 a]] H K := by
  refine VCall_fn tbl_at33 rfl ?_
  simp [vf33, hw.one, hw.stor]
  refine ref_Validate hw ?_
  by_cases hval : valP ⟨W, r, c⟩ = 0
  · simp [hval, hw.stor, rd_two]
    refine ref_crowd hw hval hlim fun H' v hx hv => ?_
    simp [hv.sl.stor]
    have := hK H' v hx (by simpa [crowdR, hval] using hv)
    rw [hval] at this
    exact this
  · simp [hval]
    exact hK H .snil HX.refl (by simp only [crowdR, hval, if_false]; exact .nil)
theorem law_sameInts {av bv : V} {l : List Int} (ha : SlV H av l) (hb : SlV H bv l) (hl : l.length ≤ 1000000) (hK : K (.bool true) H) : VCall tbl lim 34 [av, bv] H K := by
  refine VCall_fn tbl_at34 rfl ?_
  simp [vf34, ha.len, hb.len]
  refine wLoop_up l.length (fun i fr L H' => (fr 0 = av ∧ fr 1 = bv ∧ fr 5 = .int .i64 i) ∧ L = [] ∧ H' = H) ⟨by simp, rfl, rfl⟩ ?_
  rintro i hi fr L H' ⟨⟨f0, f1, f5⟩, rfl, e0⟩
  have e0 := e0.symm
  subst e0
  simp [f0, f1, f5, ha.len]
  refine cond_dec (fun ht => ?_) fun hfl => ?_
  · have ht : i < l.length := by omega
    have a1 := ha.addr (i := i) (by omega)
    have b1 := hb.addr (i := i) (by omega)
    simp only [Int.toNat_natCast] at a1 b1
    simp (disch := omega) [f0, f1, f5, a1, b1, ha.load, hb.load, lpId_ept, wrap_i64]
    omega
  · simp; exact hK
theorem law_PlotCrowds {ws : List V} {p : Ply} (hv : PlyV H ws p) (hlim : lim ≤ H.length) (hs : I64 s) (ha : I64 a) (hK : ∀ H', K (.bool true) H') : VCall tbl lim 6 [.agg ws, .agg [.int .i64 s, .int .i64 a]] H K := by
  cases hv with
  | mk hw hr hc =>
    rename_i wv W r c
    refine VCall_fn tbl_at6 rfl ?_
    simp [vf6, hw.stor, hw.one, rd_two]
    refine law_long hw ?_
    refine cond_bool (fun h => ?_) fun h => ?_
    · simp
      refine law_known hlim fun H1 _ => ?_
      simp; exact hK _
    simp [hw.stor, rd_two]
    refine plot_Crowd hw hlim fun H1 v1 x1 o1 => ?_
    replace x1 : HX H H1 := x1
    have l1 := x1.len
    simp [hw.stor, rd_two]
    refine ref_Crowd (hw.mono x1) (by omega) fun H2 v2 x2 o2 => ?_
    replace x2 : HX H1 H2 := x2
    have l2 := x2.len
    have hle : (crowdR ⟨W, r, c⟩ s a).length ≤ W.length := by
      unfold crowdR
      split
      · exact crowdL_le
      · simp
    have hw60 : W.length ≤ 60 := by simp at h; omega
    have o1' := (o1.sl.mono x2)
    simp [o1'.stor, o2.sl.stor]
    refine law_sameInts o1' o2.sl (by omega) ?_
    simp
    refine wLoop_up (crowdR ⟨W, r, c⟩ s a).length (fun i fr L H' => (fr 2 = .lp 0 0 ∧ fr 5 = v1 ∧ fr 9 = .int .i64 i) ∧ L[0]? = some [wv, .int .i64 r, .int .i64 c] ∧ H' = H2) ⟨by simp, rfl, rfl⟩ ?_
    rintro i hi fr L H' ⟨⟨f2, f5, f9⟩, l0, rfl⟩
    simp [f2, f5, f9, o1'.len]
    refine cond_dec (fun ht => ?_) fun hfl => ?_
    · have ht : i < (crowdR ⟨W, r, c⟩ s a).length := by omega
      simp
      refine wLoop_up i (fun k fr L H'' => (fr 2 = .lp 0 0 ∧ fr 5 = v1 ∧ fr 9 = .int .i64 i ∧ fr 10 = .int .i64 k) ∧ L[0]? = some [wv, .int .i64 r, .int .i64 c] ∧ H'' = H') ⟨by simp [f2, f5, f9], l0, rfl⟩ ?_
      clear f2 f5 f9 l0
      rintro k hk fr L H'' ⟨⟨f2, f5, f9, f10⟩, l0, e0⟩
      have e0 := e0.symm
      subst e0
      simp [f2, f5, f9, f10]
      refine cond_dec (fun ht2 => ?_) fun hfl2 => ?_
      · have ht2 : k < (crowdR ⟨W, r, c⟩ s a).length := by omega
        have a1 := o1'.addr (i := i) (by omega)
        have b1 := o1'.addr (i := k) (by omega)
        simp only [Int.toNat_natCast] at a1 b1
        have hval : valP ⟨W, r, c⟩ = 0 := by
          apply Classical.byContradiction
          intro hn
          simp [crowdR, hn] at ht
        have hme : ∀ j, j < (crowdR ⟨W, r, c⟩ s a).length → ∃ i : Nat, (crowdR ⟨W, r, c⟩ s a).getD j 0 = i ∧ i < W.length ∧ inB ⟨W, r, c⟩ s a (W.getD i default) = true := by
          intro j hj
          have e : crowdR ⟨W, r, c⟩ s a = crowdL ⟨W, r, c⟩ s a W.length := by simp [crowdR, hval]
          refine crowdL_mem (n := W.length) ?_
          rw [← e, List.getD_eq_getElem?_getD, List.getElem?_eq_getElem hj]
          exact List.getElem_mem hj
        obtain ⟨p1, q1, q2, q3⟩ := hme i ht
        obtain ⟨p2, q4, q5, q6⟩ := hme k ht2
        simp (disch := omega) [f2, f5, f9, f10, l0, a1, b1, o1'.load, lpId_ept, hw.stor]
        have hw3 := (hw.mono x1).mono x2
        refine plot_Clash hw3 (by rw [q1]; unfold I64; omega) (by rw [q4]; unfold I64; omega) ?_
        have hq : clashP ⟨W, r, c⟩ p1 p2 = (true, 0) := by
          have hin : ¬ ((p1 : Int) < 0 ∨ (p2 : Int) < 0 ∨ (W.length : Int) ≤ p1 ∨ (W.length : Int) ≤ p2) := by omega
          simp only [clashP, hval, ne_eq, not_true_eq_false, if_false, if_neg hin, Int.toNat_natCast, inB_clash q3 q6]
        rw [q1, q4, hq]
        simp (disch := omega) [f2, f5, f9, f10, l0, wrap_i64]
        omega
      · have : k = i := by omega
        subst this
        simp (disch := omega) [f2, f5, f9, f10, l0, wrap_i64]
        omega
    · simp
      refine law_known (by omega) fun H3 _ => ?_
      simp; exact hK _
end
end Go.Proofs.Ytdipmhdekjlifaa.Vm
