/- Package dye over the machine: normal blends; DyeBlends. -/
import Derived.Test.YtkmcdiajcnejiaaBlI
namespace Go.Proofs.Ytkmcdiajcnejiaa.Vm
open Go
set_option maxRecDepth 100000
set_option maxHeartbeats 1000000
set_option linter.unusedSimpArgs false
set_option linter.unusedVariables false
attribute [-simp] List.getD_eq_getElem?_getD
theorem pts_of {H : Hp} {v : V} {d : CD} (h : RepT H (.sl [cInt, cInt, cInt, cInt]) v d) : ∃ l, LstV prC H v l := by
  obtain ⟨l, h1, _, _⟩ := lst_of (c := prC) rfl (fun z => True) (fun vs ds h => by
    obtain ⟨v0, u0, _, _, rfl, _, p0, q0⟩ := reps_cons h
    obtain ⟨v1, u1, _, _, rfl, _, p1, q1⟩ := reps_cons q0
    obtain ⟨v2, u2, _, _, rfl, _, p2, q2⟩ := reps_cons q1
    obtain ⟨v3, u3, _, _, rfl, _, p3, q3⟩ := reps_cons q2
    have e := reps_nil q3
    subst e
    obtain ⟨n0, rfl, c0⟩ := int_of p0
    obtain ⟨n1, rfl, c1⟩ := int_of p1
    obtain ⟨n2, rfl, c2⟩ := int_of p2
    obtain ⟨n3, rfl, c3⟩ := int_of p3
    exact ⟨⟨n0, n1, n2, n3⟩, rfl, trivial⟩) h
  exact ⟨l, h1⟩
theorem blP_okw {l : List Prt} (h : blP l = 0) : Okw l := by
  obtain ⟨h1, h2, h3⟩ := blP_ok h
  exact ⟨by omega, fun i hi => by have := h3 i hi; exact ⟨this.1, by omega, by omega⟩⟩
theorem okw_nil : Okw [] := ⟨by simp, fun i hi => by simp at hi⟩
theorem mixW_one {l : List Prt} : mixW l 1 [] 0 = wtN l := funext fun i => by simp [mixW]
section
variable {lim : Nat} {H : Hp} {K : V → Hp → Prop} {v w : V} {l m : List Prt} {x y u1 u2 u3 : Int}
theorem dye_Normal (hv : LstV prC H v l) (hlim : lim ≤ H.length) (hK : ∀ H' v', HX H H' → PreT H.length H' v' (normP l).1 → K (.tup [v', .int .i64 (normP l).2]) H') : VCall tbl lim 15 [v] H K := by
  refine VCall_fn tbl_at15 rfl ?_
  have hst := hv.stor
  simp [vf15, hst]
  refine dye_ValidateBlend hv ?_
  by_cases hb : blP l = 0
  case neg =>
    have e : normP l = ([], blP l) := by unfold normP; rw [if_neg hb]
    have := hK H .snil HX.refl (by rw [e]; exact .nil)
    rw [e] at this
    simp [hb]
    exact this
  obtain ⟨h1, h2, h3⟩ := blP_ok hb
  obtain ⟨c1, c2, c3, c4⟩ := colP_spec hb
  have e : normP l = nrmP (colP l) := by unfold normP; rw [if_pos hb]
  rw [e] at hK
  simp [hb, vbslice_some, hst, splice, hv.one]
  have x0 : HX H (H ++ [.row [v] true]) := HX.push
  have hb1 : LstV vC (H ++ [.row [v] true]) (.sl H.length 0 1 1) [v] := LstV.sl (c := vC) (l := [v]) (off := 0) (cs := [v]) (own := true) (by simp) (by simp) rfl
  have hv1 := hv.mono x0
  have hfl : [l].flatten = l := by simp
  generalize H ++ [.row [v] true] = H0 at *
  have l0 := x0.len
  refine dye_collect hb1 (Ls := [l]) rfl (fun i hi => ?_) ⟨by simp, by simp⟩ (by rw [hfl]; omega) (by omega) (B := 1000) ⟨by omega, by omega⟩ (fun p hp => ?_) fun H2 v2 x2 hp2 => ?_
  · have : i = 0 := by simp at hi; omega
    subst this
    exact ⟨hv1, h2⟩
  · rw [hfl] at hp
    obtain ⟨i, hi, e⟩ := mem_getD hp
    rw [← e]; have := h3 i hi; exact ⟨this.1, by omega, by omega⟩
  rw [hfl] at hp2
  replace x2 : HX H0 H2 := x2
  have l2 := x2.len
  simp [hp2.lst.stor]
  refine dye_normal hp2 (by omega) (by omega) (fun i hi => by have := c4 i hi; omega) fun H3 v3 l3 ho hp3 => ?_
  have x3 : HX H H3 := HX.of (by omega) fun b hb => by rw [ho b (by omega)]; exact (x0.trans x2).same hb
  have := hK H3 v3 x3 (hp3.le (by omega))
  simp [hp3.lst.stor]
  exact this
theorem ref_Normal (hv : LstV prC H v l) (hlim : lim ≤ H.length) (hK : ∀ H' v', HX H H' → LstV prC H' v' (normP l).1 → K (.tup [v', .int .i64 (normP l).2]) H') : VCall tbl lim 16 [v] H K := by
  refine VCall_fn tbl_at16 rfl ?_
  have hst := hv.stor
  simp [vf16, hst]
  refine ref_ValidateBlend hv ?_
  by_cases hb : blP l = 0
  case neg =>
    have e : normP l = ([], blP l) := by unfold normP; rw [if_neg hb]
    have := hK H .snil HX.refl (by rw [e]; exact .nil)
    rw [e] at this
    simp [hb]
    exact this
  have e : normP l = nrmP (canN (mixW l 1 [] 0) 240) := by unfold normP; rw [if_pos hb, mixW_one]; rfl
  rw [e] at hK
  simp [hb, hst]
  refine ref_merged hv (.nil : LstV prC H .snil []) (blP_okw hb) okw_nil (by omega) (by omega) hlim fun H2 v2 x2 h2 => ?_
  have := hK H2 v2 x2 h2
  simp [h2.stor]
  exact this
theorem law_copied (hv : LstV prC H v l) (hl : l.length ≤ 1000) (hlim : lim ≤ H.length) (hK : ∀ H' v', HX H H' → LstV prC H' v' l → K v' H') : VCall tbl lim 14 [v] H K := by
  refine VCall_fn tbl_at14 rfl ?_
  have hv2 := hv.mono (H' := H ++ [.row [] true]) HX.push
  have ap : vappend lim 4 32 (H ++ [.row [] true]) (.sl H.length 0 0 4) v = some (.sl (H.length + 1) 0 l.length 4, (H ++ [Blk.row [] true]).set H.length .dead ++ [.row (prC.all l) true]) := by
    simp [vappend, hv2.cells, hv2.len, hlim, Cod.all_len, show l.length * 32 ≤ 140737488355328 by omega, show l.length < 4611686018427387904 by omega]
  have o : LstV prC ((H ++ [Blk.row [] true]).set H.length .dead ++ [.row (prC.all l) true]) (.sl (H.length + 1) 0 l.length 4) l := by
    have : H.length + 1 = ((H ++ [Blk.row [] true]).set H.length .dead).length := by simp
    rw [this]
    exact (OwnT.new (c := prC) (n := 0) (by omega)).lst
  have x : HX H ((H ++ [Blk.row [] true]).set H.length .dead ++ [.row (prC.all l) true]) := by
    refine HX.of (by simp <;> omega) fun i hi => ?_
    rw [List.getElem?_append_left (by simp; omega), List.getElem?_set_ne (by omega), List.getElem?_append_left hi]
  have := hK _ _ x o
  have e : ((H ++ [Blk.row [] true]).set H.length .dead ++ [Blk.row (prC.all l) true]) = H ++ [.dead, .row (prC.all l) true] := by simp
  rw [e] at this
  simp [vf14, vbslice_some, ap]
  exact this
theorem law_spoil {n : Nat} (hp : PreT n H v l) (hlim : lim ≤ n) (hl : l.length ≤ 1000) (hK : ∀ H', H'.length = H.length → (∀ b, b < n → H'[b]? = H[b]?) → K (.tup []) H') : VCall tbl lim 20 [v] H K := by
  refine VCall_fn tbl_at20 rfl ?_
  have hlen := hp.lst.len
  simp [vf20]
  by_cases h0 : l.length = 0
  · have := hK H rfl fun _ _ => rfl
    refine wLoop_round ?_
    simp [hlen, h0]
    exact this
  obtain ⟨R, hR⟩ := hp.cut (by omega)
  refine wLoop_up l.length (fun i fr L H' => ∃ M, (fr 0 = v ∧ fr 2 = .int .i64 i) ∧ H' = setH H v (prC.all M ++ R) ∧ M.length = l.length) ⟨l, by simp, hR.same.symm, rfl⟩ ?_
  rintro i hi fr L H' ⟨M, ⟨f0, f2⟩, e0, hM⟩
  subst e0
  have hR2 := hR.put (m := M) hM
  simp [f0, f2, hR2.pre.lst.len, hM]
  refine cond_dec (fun ht => ?_) fun hfl => ?_
  · have ht : i < l.length := by omega
    have ad := hR2.pre.lst.at (i := i) (by omega)
    have fa3 : vfaddr 3 (ept 4 v i) = some (eptf 4 v i 3) := hR2.pre.lst.faddr (by omega)
    have sw := fun L => hR2.store (lim := lim) hlim (i := i) (by omega) (-1) L
    simp only [hR.twice] at sw
    simp (disch := omega) [f0, f2, ad, fa3, sw, wrap_i64, -vstore]
    exact ⟨by omega, _, rfl, by simpa using hM⟩
  · have := hK (setH H v (prC.all M ++ R)) hR.len2 fun b hb => hR.old hb
    simp
    exact this
theorem normP_len : (normP l).1.length ≤ 6 := by
  by_cases h : (normP l).2 = 0
  · exact (norm_norm h).2
  · unfold normP at h ⊢
    split at h
    · rename_i hb
      rw [if_pos hb]
      unfold nrmP at h ⊢
      split at h
      · rename_i h6; rw [if_pos h6]; simp
      · rename_i h6
        rw [if_neg h6]
        split at h
        · simp at h
        · rename_i hal; rw [if_neg hal]; simp
    · rename_i hb; rw [if_neg hb]; simp
theorem law_DyeBlends (hv : LstV prC H v l) (hlim : lim ≤ H.length) (hK : ∀ H', K (.bool true) H') : VCall tbl lim 3 [v] H K := by
  refine VCall_fn tbl_at3 rfl ?_
  simp [vf3, hv.stor]
  refine law_many hv ?_
  refine cond_dec (fun h => ?_) fun h => ?_
  · simp
    refine law_known hlim fun H1 => ?_
    simp; exact hK _
  simp [hv.stor]
  refine law_copied hv (by omega) hlim fun H1 own x1 ho => ?_
  replace x1 : HX H H1 := x1
  have l1 := x1.len
  have hv1 := hv.mono x1
  have hn6 := normP_len (l := l)
  have hn62 := normP_len (l := (normP l).1)
  simp [ho.stor]
  refine dye_Normal ho (by omega) fun H2 a x2 ha => ?_
  replace x2 : HX H1 H2 := x2
  have l2 := x2.len
  have hv2 := hv1.mono x2
  simp [hv.stor]
  refine ref_Normal hv2 (by omega) fun H3 b x3 hb => ?_
  replace x3 : HX H2 H3 := x3
  have l3 := x3.len
  have hv3 := hv2.mono x3
  have ha3 := ha.mono x3
  simp [hv.stor]
  refine dye_ValidateBlend hv3 ?_
  simp [hv.stor]
  refine ref_ValidateBlend hv3 ?_
  simp [ha3.lst.stor, hb.stor]
  refine ref_SameParts ha3.lst hb (by omega) (by omega) ?_
  have hsame : sameP (normP l).1 (normP l).1 = true := decide_eq_true rfl
  rw [hsame]
  simp [ha3.lst.stor]
  refine dye_Normal ha3.lst (by omega) fun H4 c x4 hc => ?_
  replace x4 : HX H3 H4 := x4
  have l4 := x4.len
  have ha4 := ha3.mono x4
  have hb4 := hb.mono x4
  have fin : ∀ H5, (∀ b, b < H1.length → H5[b]? = H4[b]?) → H5.length = H4.length → HX H1 H5 := fun H5 h1 h2 => HX.of (by omega) fun b hb => by rw [h1 b hb]; exact ((x2.trans x3).trans x4).same hb
  by_cases he : (normP l).2 = 0
  · have hnn := (norm_norm he).1
    rw [hnn] at hc ⊢
    simp only at hc
    simp [he, hc.lst.stor, hb.stor]
    refine ref_SameParts hc.lst hb4 (by omega) (by omega) ?_
    rw [hsame]
    simp [ha4.lst.stor]
    refine law_spoil ha4 (by omega) (by omega) fun H5 l5 o5 => ?_
    have x5 := fin H5 o5 l5
    simp [ho.stor, hv.stor]
    refine ref_SameParts (ho.mono x5) (hv1.mono x5) (by omega) (by omega) ?_
    have hsl : sameP l l = true := decide_eq_true rfl
    rw [hsl]
    simp
    refine law_known (by omega) fun H6 => ?_
    simp; exact hK _
  · have vwd : vwant false dv = false := rfl
    have vwt : vwant true dv = false := rfl
    simp [eq_false he, ha4.lst.stor, vwd, vwt]
    refine law_spoil ha4 (by omega) (by omega) fun H5 l5 o5 => ?_
    have x5 := fin H5 o5 l5
    simp [ho.stor, hv.stor]
    refine ref_SameParts (ho.mono x5) (hv1.mono x5) (by omega) (by omega) ?_
    have hsl : sameP l l = true := decide_eq_true rfl
    rw [hsl]
    simp
    refine law_known (by omega) fun H6 => ?_
    simp; exact hK _
end
end Go.Proofs.Ytkmcdiajcnejiaa.Vm
