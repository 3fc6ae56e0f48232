/- Texts of bundles over the machine: the program's Parse; the law HairTexts. -/
import Derived.Test.YtgjlhdggllakbaaDoorTxG
namespace Go.Proofs.YtgjlhdggllakbaaDoor.Vm
open Go
set_option maxRecDepth 100000
set_option linter.unusedSimpArgs false
set_option linter.unusedVariables false
attribute [-simp] List.getD_eq_getElem?_getD

theorem hair_Parse {lim : Nat} {H : Hp} {s : ByteArray} {K : V → Hp → Prop} (hg : HX glHp H) (hs : s.size ≤ 1000000) (hlim : lim ≤ H.length) (hK : ∀ H' v, HX H H' → OwnB H.length H' (prsP (rdH (wds 32 s.data.toList)) s.data.toList).1 (prsP (rdH (wds 32 s.data.toList)) s.data.toList).2.1 v → K (.tup [v, .int .i64 (prsP (rdH (wds 32 s.data.toList)) s.data.toList).2.2]) H') : VCall tbl lim 9 [.str s] H K := by
  have hsz : s.data.toList.length = s.size := by show s.data.toList.length = s.data.size; simp
  refine VCall_fn tbl_at9 rfl ?_
  by_cases h4 : 4000 < s.size
  · have h4' : ((4000 : Int) < (s.size : Int)) = True := eq_true (by omega)
    have e : prsP (rdH (wds 32 s.data.toList)) s.data.toList = ([], [], 4) := by unfold prsP; rw [if_pos (by omega)]
    rw [e] at hK
    simp [vf9, h4', splice]
    exact hK H _ .refl .zero
  have h4' : ((4000 : Int) < (s.size : Int)) = False := eq_false (by omega)
  simp [vf9, h4']
  refine readLists_t hg (by omega) hlim fun H1 v x1 o1 => ?_
  have l1 := x1.len
  generalize rdH (wds 32 s.data.toList) = x at hK o1
  obtain ⟨o1, o2⟩ := o1
  rename_i v1 v2
  have hbun : BunV H1 x.r x.w (.agg [v1, v2]) := .mk o1.sl o2.sl
  simp [o1.sl.stor, o2.sl.stor, o1.sl.one, o2.sl.one, splice]
  refine hair_Format (hg.trans x1) hbun (by omega) fun H2 x2 => ?_
  have l2 := x2.len
  by_cases he : errOf x.r x.w = 0
  case neg =>
    have ep : prsP x s.data.toList = ([], [], 3) := by
      unfold prsP; rw [if_neg (by omega), if_neg (fun h => he h.1)]
    rw [ep] at hK
    simp [he, splice]
    exact hK H2 _ (x1.trans x2) .zero
  have et : txtP x.r x.w = bA (fmtB x.r x.w) := by unfold txtP; rw [if_pos he]
  rw [et, he]
  have vn := vneq_bA (W := fmtB x.r x.w) (s := s)
  by_cases ha : fmtB x.r x.w = s.data.toList
  · have ep : prsP x s.data.toList = (rS x.r x.w, wS x.r x.w, 0) := by
      unfold prsP; rw [if_neg (by omega), if_pos ⟨he, ha⟩]
    rw [ep] at hK
    rw [decide_eq_true ha] at vn
    have hbun2 := hbun.mono x2
    simp [vn, splice, o1.sl.stor, o2.sl.stor]
    refine hair_Trim hbun2 (by omega) fun H3 v x3 o3 => ?_
    rw [trim_ok he] at o3 ⊢
    obtain ⟨p1, p2⟩ := o3
    simp [p1.sl.stor, p2.sl.stor, p1.sl.one, p2.sl.one, splice]
    exact hK H3 _ ((x1.trans x2).trans x3) (.mk (p1.le (by omega)) (p2.le (by omega)))
  · have ep : prsP x s.data.toList = ([], [], 3) := by
      unfold prsP; rw [if_neg (by omega), if_neg (fun h => ha h.2)]
    rw [ep] at hK
    rw [decide_eq_false ha] at vn
    simp [vn, splice]
    exact hK H2 _ (x1.trans x2) .zero
theorem prs_both {T : List UInt8} : prsP (rdH (wds 32 T)) T = prsP (rdR (wds 32 T)) T := by
  unfold prsP
  split
  · rfl
  · by_cases h : accB (rdH (wds 32 T)) T
    · obtain ⟨a, b⟩ := acc_both.2 h
      rw [if_pos h, if_pos (acc_both.1.1 h), a, b]
    · rw [if_neg h, if_neg (fun h2 => h (acc_both.1.2 h2))]

theorem prs_fmt {r w : List Int} (he : errOf r w = 0) : prsP (rdH (wds 32 (fmtB r w))) (fmtB r w) = (rS r w, wS r w, 0) := by
  obtain ⟨h1, h2, h3⟩ := acc_fmt he
  have hl := fmtB_len (r := r) (w := w)
  obtain ⟨a, b⟩ := sides_sides he
  unfold prsP
  rw [if_neg (by omega), if_pos h1, h2, h3, a, b]
theorem prs_len {x : RdH} {T : List UInt8} : (prsP x T).1.length ≤ 24 ∧ (prsP x T).2.1.length ≤ 24 := by
  unfold prsP
  split
  · simp
  · split
    · exact ⟨side_len, side_len⟩
    · simp
theorem same_sides {r w : List Int} (he : errOf r w = 0) : sameB (rS r w) (wS r w) r w = true ∧ er2 (rS r w) (wS r w) r w = 0 := by
  have h2 : er2 (rS r w) (wS r w) r w = 0 := by unfold er2; rw [if_pos errOf_sides, he]
  refine ⟨?_, h2⟩
  unfold sameB
  rw [if_pos h2, op_sides he]; simp
theorem law_HairTexts {lim : Nat} {H : Hp} {bv : V} {r w : List Int} {s : ByteArray} {K : V → Hp → Prop} (hb : BunV H r w bv) (hg : HX glHp H) (hlim : lim ≤ H.length) (ht : s.size ≤ maxLen) (hK : ∀ H', K (.bool true) H') : VCall tbl lim 3 [bv, .str s] H K := by
  obtain ⟨hx, hy⟩ := hb
  rename_i rv wv
  have hb : BunV H r w (.agg [rv, wv]) := .mk hx hy
  refine VCall_fn tbl_at3 rfl ?_
  simp [vf3, hx.stor, hy.stor, hx.one, hy.one]
  refine law_Long hb ?_
  by_cases hl1 : r.length ≤ 100 ∧ w.length ≤ 100
  case neg =>
    have : (decide (100 < r.length) || decide (100 < w.length)) = true := by simp; omega
    rw [this]
    simp; refine law_known hlim fun H1 _ => ?_; simp; exact hK H1
  have : (decide (100 < r.length) || decide (100 < w.length)) = false := by simp; omega
  rw [this]
  by_cases h5 : 5000 < s.size
  · have h5' : ((5000 : Int) < (s.size : Int)) = True := eq_true (by omega)
    simp [h5']
    refine law_known hlim fun H1 _ => ?_; simp; exact hK H1
  have h5' : ((5000 : Int) < (s.size : Int)) = False := eq_false (by omega)
  simp [h5', hx.stor, hy.stor]
  refine hair_Format hg hb hlim fun H1 x1 => ?_
  have l1 := x1.len
  simp [hx.stor, hy.stor]
  refine ref01_Format (hb.mono x1) (by omega) fun H2 x2 => ?_
  have l2 := x2.len
  simp
  refine hair_Parse (hg.trans (x1.trans x2)) (by omega) (by omega) fun H3 v3 x3 o3 => ?_
  have l3 := x3.len
  obtain ⟨o1, o2⟩ := o3
  rename_i a1 a2
  simp [o1.sl.stor, o2.sl.stor, o1.sl.one, o2.sl.one, splice]
  refine ref01_Parse (by omega) (by omega) fun H4 v4 x4 o4 => ?_
  have l4 := x4.len
  rw [← prs_both] at o4 ⊢
  obtain ⟨q1, q2⟩ := o4
  rename_i b1 b2
  obtain ⟨pl1, pl2⟩ := prs_len (x := rdH (wds 32 s.data.toList)) (T := s.data.toList)
  generalize prsP (rdH (wds 32 s.data.toList)) s.data.toList = pp at o1 o2 q1 q2 pl1 pl2
  have vn : vbin .neq (.str (txtP r w)) (.str (txtP r w)) = some (.bool false) := by simp [vbin]
  have o1' := o1.mono x4
  have o2' := o2.mono x4
  simp [q1.sl.stor, q2.sl.stor, q1.sl.one, q2.sl.one, o1.sl.stor, o2.sl.stor, splice, vn]
  refine ref01_Equal (.mk o1'.sl o2'.sl) (.mk q1.sl q2.sl) (by omega) (by omega) ?_
  simp
  have xx := ((x1.trans x2).trans x3).trans x4
  by_cases he : errOf r w = 0
  case neg =>
    simp [he]
    refine law_known (by omega) fun H5 _ => ?_; simp; exact hK H5
  have et : txtP r w = bA (fmtB r w) := by unfold txtP; rw [if_pos he]
  have hl := fmtB_len (r := r) (w := w)
  simp [he, et]
  refine hair_Parse (hg.trans xx) (by rw [bA_size]; omega) (by omega) fun H5 v5 x5 o5 => ?_
  have l5 := x5.len
  rw [list_bA, prs_fmt he] at o5 ⊢
  obtain ⟨r1, r2⟩ := o5
  rename_i c1 c2
  obtain ⟨s1, s2⟩ := same_sides he
  simp [r1.sl.stor, r2.sl.stor, r1.sl.one, r2.sl.one, splice, hx.stor, hy.stor]
  refine hair_Same (.mk r1.sl r2.sl) (hb.mono (xx.trans x5)) (by omega) fun H6 x6 => ?_
  have l6 := x6.len
  rw [s1, s2]
  simp
  refine law_known (by first | exact Nat.le_refl _ | omega) fun H7 _ => ?_
  simp
  exact hK H7
end Go.Proofs.YtgjlhdggllakbaaDoor.Vm
