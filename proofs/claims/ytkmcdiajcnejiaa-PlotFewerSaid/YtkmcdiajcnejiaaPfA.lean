/- Package plot over the machine: a play without one of its wearings (taken out in place); PlotFewer. -/
import Derived.Test.YtkmcdiajcnejiaaNeB
namespace Go.Proofs.Ytkmcdiajcnejiaa.Vm
open Go
set_option maxRecDepth 100000
set_option maxHeartbeats 1000000
set_option linter.unusedSimpArgs false
set_option linter.unusedVariables false
attribute [-simp] List.getD_eq_getElem?_getD
theorem del_getD {W : List Wr} {i j : Nat} (hi : i < W.length) : (W.take i ++ W.drop (i + 1)).getD j default = W.getD (if j < i then j else j + 1) default := by
  simp only [List.getD_eq_getElem?_getD]
  congr 1
  have hl : (W.take i).length = i := by simp; omega
  by_cases h : j < i
  · rw [if_pos h, List.getElem?_append_left (by omega), List.getElem?_take, if_pos h]
  · rw [if_neg h, List.getElem?_append_right (by omega), List.getElem?_drop, hl]
    congr 1; omega
theorem ok_valP {p : Ply} (h1 : p.W.length ≤ 16) (h2 : 0 ≤ p.rd ∧ p.rd ≤ 600) (h3 : 0 ≤ p.ch ∧ p.ch ≤ 600) (h4 : ∀ i, i < p.W.length → wrB (p.W.getD i default) = true) (h5 : ∀ i, i < p.W.length → ∀ k, k < i → oneB p i k = false) : valP p = 0 := by
  have a : minB p.rd = true := decide_eq_true h2
  have b : minB p.ch = true := decide_eq_true h3
  have c : allN (fun i => wrB (p.W.getD i default)) p.W.length = true := allN_of h4
  have d : allN (fun i => allN (fun k => !oneB p i k) i) p.W.length = true := allN_of fun i hi => allN_of fun k hk => by rw [h5 i hi k hk]; rfl
  simp only [valP, a, b, c, d, Bool.and_true, Bool.true_eq_false, if_false]
  rw [if_neg (by omega)]
theorem valP_del {W : List Wr} {r c : Int} {i : Nat} (hi : i < W.length) (h : valP ⟨W, r, c⟩ = 0) : valP ⟨W.take i ++ W.drop (i + 1), r, c⟩ = 0 := by
  obtain ⟨g1, g2, g3, g4, g5⟩ := valP_ok h
  simp only at g1 g2 g3 g4 g5
  have hl : (W.take i ++ W.drop (i + 1)).length = W.length - 1 := by simp; omega
  refine ok_valP (by simp only [hl]; omega) g2 g3 (fun j hj => ?_) fun j hj k hk => ?_
  · simp only [hl] at hj
    simp only [del_getD hi]
    exact g4 _ (by split <;> omega)
  · simp only [hl] at hj
    have := g5 (if j < i then j else j + 1) (by split <;> omega) (if k < i then k else k + 1) (by split <;> split <;> omega)
    simpa only [oneB, del_getD hi] using this
theorem least_del {W : List Wr} {r c : Int} {i : Nat} (hi : i < W.length) : leastP ⟨W.take i ++ W.drop (i + 1), r, c⟩ ≤ leastP ⟨W, r, c⟩ ∧ leastP ⟨W, r, c⟩ ≤ leastP ⟨W.take i ++ W.drop (i + 1), r, c⟩ + 1 := by
  have e : W = W.take i ++ W[i] :: W.drop (i + 1) := by
    rw [← List.drop_eq_getElem_cons hi, List.take_append_drop]
  have := least_erase (A := W.take i) (B := W.drop (i + 1)) (w := W[i]) (r := r) (c := c)
  rw [← e] at this
  exact this
theorem leN_bd {p : Ply} : ∀ {n : Nat}, leN p n ≤ n * p.W.length
  | 0 => Nat.zero_le _
  | n + 1 => by
    have ih := leN_bd (p := p) (n := n)
    have : mxS p ((n + 1 : Nat) : Int) ≤ p.W.length := mxS_le fun w _ _ => crw_len
    simp only [leN]
    rw [Nat.succ_mul]
    omega
theorem splice31 {a b c x : V} : splice [a, b, c] 0 [x] = [x, b, c] := by simp [splice]
section
variable {lim : Nat} {H : Hp} {K : V → Hp → Prop} {wv : V} {W : List Wr} {r c x y q u1 u2 u3 a b : Int} {v w : V} {M : List (Int × Int)}
theorem copy_wr2 {lim : Nat} {H : Hp} (hv : LstV wrC H v W) (hlim : lim ≤ H.length) (hl : W.length ≤ 1000) : ∃ v' H', vappend lim 4 32 (H ++ [.row [] true]) (.sl H.length 0 0 4) v = some (v', H') ∧ OwnT H.length wrC H' v' W ∧ HX H H' := by
  have hv2 := hv.mono (H' := H ++ [.row [] true]) HX.push
  refine ⟨.sl (H.length + 1) 0 W.length 4, (H ++ [Blk.row [] true]).set H.length .dead ++ [.row (wrC.all W) true], ?_, .row (by omega) ?_, ?_⟩
  · simp [vappend, hv2.cells, hv2.len, hlim, Cod.all_len, show W.length * 32 ≤ 140737488355328 by omega, show W.length < 4611686018427387904 by omega]
  · have : H.length + 1 = ((H ++ [Blk.row [] true]).set H.length .dead).length := by simp
    rw [this]; exact List.getElem?_concat_length
  · refine HX.of (by simp <;> omega) fun i hi => ?_
    rw [List.getElem?_append_left (by simp; omega), List.getElem?_set_ne (by omega), List.getElem?_append_left hi]
theorem ref_Copy2 (hw : LstV wrC H wv W) (hl : W.length ≤ 1000) (hlim : lim ≤ H.length) (hK : ∀ H' v', HX H H' → OwnT H.length wrC H' v' W → K (.agg [v', .int .i64 r, .int .i64 c]) H') : VCall tbl lim 36 [.agg [wv, .int .i64 r, .int .i64 c]] H K := by
  refine VCall_fn tbl_at36 rfl ?_
  obtain ⟨v', H', a1, a2, a3⟩ := copy_wr2 hw hlim hl
  simp [vf36, hw.stor, hw.one, vbslice_some, a1, a2.lst.stor, a2.lst.one, splice]
  exact hK _ _ a3 a2
/-- an element is taken out of one's own list, in place -/
theorem del_wr {lim n i : Nat} {u : V} (ho : OwnT n wrC H u W) (hi : i < W.length) (hl : W.length ≤ 1000) (hlim : lim ≤ n) :
    ∃ x y v' H', vslC 4 u none (some (.int .i64 (i : Int))) = some x ∧ vslC 4 u (some (.int .i64 ((i : Int) + 1))) none = some y ∧ vappC true lim 4 32 H x y = some (v', H') ∧ LstV wrC H' v' (W.take i ++ W.drop (i + 1)) ∧ H'.length = H.length ∧ ∀ b, b < n → H'[b]? = H[b]? := by
  cases ho with
  | nil => simp at hi
  | row h1 h2 =>
    rename_i b
    have hb : b < H.length := (List.getElem?_eq_some_iff.1 h2).1
    have hne : ¬ i = W.length := by omega
    have b1 : vbounds W.length none (some (.int .i64 (i : Int))) = some (0, i) := vbounds_hi (k := .i64) (by omega)
    have b2 : vbounds W.length (some (.int .i64 ((i : Int) + 1))) none = some (i + 1, W.length) := vbounds_lo (k := .i64) (n := i + 1) (by omega)
    have hall : (wrC.all W).length = W.length * 4 := Cod.all_len
    have htk : (wrC.all W).take (i * 4) = wrC.all (W.take i) := Cod.all_take
    have hdr : (wrC.all W).drop ((i + 1) * 4) = wrC.all (W.drop (i + 1)) := Cod.all_drop
    by_cases e : i + 1 = W.length
    · have hd : W.drop (i + 1) = [] := by rw [e]; exact List.drop_length
      refine ⟨.slc b 0 i 4 W.length, .sempty, .sl b 0 (W.take i).length 4, H, ?_, ?_, ?_, ?_, rfl, fun _ _ => rfl⟩
      · simp [vslC, b1, mkslc, hne]
      · have hw0 : ¬ W = [] := fun h => by rw [h] at hi; simp at hi
        simp [vslC, b2, e, hw0]
      · have c1 := (LstV.empty (c := wrC) (H := H)).cells
        have hk : vcells 4 H .sempty = some [] := c1
        have hle : i ≤ W.length := by omega
        simp [vappC, hk, vlenS, hle, Nat.min_eq_left hle]
      · rw [hd, List.append_nil]
        refine .sl h2 (by rw [hall, List.length_take]; omega) ?_
        rw [List.drop_zero, List.length_take, Nat.min_eq_left (by omega)]
        exact htk
    · have hdl : (W.drop (i + 1)).length = W.length - (i + 1) := List.length_drop
      have hsl : LstV wrC H (.sl b (0 + (i + 1) * 4) (W.drop (i + 1)).length 4) (W.drop (i + 1)) := by
        refine .sl h2 (by rw [hall, hdl]; omega) ?_
        rw [Nat.zero_add, hdr, List.take_of_length_le (by rw [Cod.all_len]; omega)]
      have hst : vstoreH lim H b (0 + i * 4) (wrC.all (W.drop (i + 1))) = some (H.set b (.row (splice (wrC.all W) (0 + i * 4) (wrC.all (W.drop (i + 1)))) true)) := by
        have : 0 + i * 4 + (wrC.all (W.drop (i + 1))).length ≤ (wrC.all W).length := by rw [Cod.all_len, hall, hdl]; omega
        simp only [vstoreH, show lim ≤ b by omega, if_true, h2, this]
      refine ⟨.slc b 0 i 4 W.length, .sl b (0 + (i + 1) * 4) (W.drop (i + 1)).length 4, .sl b 0 (W.take i ++ W.drop (i + 1)).length 4, H.set b (.row (splice (wrC.all W) (0 + i * 4) (wrC.all (W.drop (i + 1)))) true), ?_, ?_, ?_, ?_, ?_, ?_⟩
      · simp [vslC, b1, mkslc, hne]
      · simp [vslC, b2, mkslc, e]
      · have hk := hsl.cells
        have hle : i + (W.length - (i + 1)) ≤ W.length := by omega
        have hk0 : ¬ ((W.drop (i + 1)).length : Int) = 0 := by omega
        have htl : (W.take i ++ W.drop (i + 1)).length = i + (W.drop (i + 1)).length := by simp; omega
        have hle2 : i + ((W.drop (i + 1)).length : Int).toNat ≤ W.length := by rw [hdl]; omega
        have hvl : vlenS (.sl b (0 + (i + 1) * 4) (W.drop (i + 1)).length 4) = some (.int .i64 (W.drop (i + 1)).length) := Eq.trans rfl rfl
        rw [htl]
        generalize (W.drop (i + 1)).length = d at *
        simp only [vappC, hk, hvl, true_and, hle2, if_true, hk0, if_false, hst]
        simp
      · have hsp : splice (wrC.all W) (0 + i * 4) (wrC.all (W.drop (i + 1))) = wrC.all (W.take i ++ W.drop (i + 1)) ++ (wrC.all W).drop (i * 4 + (wrC.all (W.drop (i + 1))).length) := by
          simp only [splice, Nat.zero_add, Cod.all_append, htk]
        refine .sl (b := b) (off := 0) (cs := splice (wrC.all W) (0 + i * 4) (wrC.all (W.drop (i + 1)))) (own := true) ?_ ?_ ?_
        · rw [List.getElem?_set_self hb]
        · rw [hsp]
          refine Nat.le_trans ?_ (List.sublist_append_left _ _).length_le
          rw [Cod.all_len]; omega
        · rw [hsp, List.drop_zero, List.take_append_of_le_length (by rw [Cod.all_len]; omega), List.take_of_length_le (by rw [Cod.all_len]; omega)]
      · simp
      · intro b' hb'
        rw [List.getElem?_set_ne (by omega)]
theorem law_PlotFewer {ws : List V} {p : Ply} (hv : PlyV H ws p) (hlim : lim ≤ H.length) (ha : I64 a) (hK : ∀ H', K (.bool true) H') : VCall tbl lim 10 [.agg ws, .int .i64 a] H K := by
  cases hv with
  | mk hw hr hc =>
    rename_i wv W r c
    refine VCall_fn tbl_at10 rfl ?_
    have d1 : decide (60 < (W.length : Int)) = decide (60 < W.length) := by simp only [decide_eq_decide]; omega
    simp [vf10, hw.stor, hw.one]
    refine law_long hw ?_
    simp [hw.len]
    refine cond_bool (fun h => ?_) fun h => ?_
    · simp
      refine law_known hlim fun H1 _ => ?_
      simp; exact hK _
    have h : W.length ≤ 60 ∧ 0 ≤ a ∧ a < W.length := by simp at h; omega
    obtain ⟨i, rfl⟩ := Int.eq_ofNat_of_zero_le h.2.1
    have hi : i < W.length := by omega
    simp [hw.stor]
    refine plot_Least hw hlim fun H1 x1 => ?_
    replace x1 : HX H H1 := x1
    have l1 := x1.len
    have hw1 := hw.mono x1
    by_cases hval : valP ⟨W, r, c⟩ = 0
    case neg =>
      simp [hval]
      refine law_known (by omega) fun H4 _ => ?_
      simp; exact hK _
    have hle : leP ⟨W, r, c⟩ = (leastP ⟨W, r, c⟩ : Int) := by simp [leP, hval]
    simp [hval, hw.stor, hle]
    refine ref_Copy2 hw1 (by omega) (by omega) fun H2 ov x2 o2 => ?_
    replace x2 : HX H1 H2 := x2
    have l2 := x2.len
    obtain ⟨sx, sy, nv, H3, e1, e2, e3, h3, hl3, hk3⟩ := del_wr (lim := lim) o2 hi (by omega) (by omega)
    have hval2 := valP_del hi hval
    have hle2 : leP ⟨W.take i ++ W.drop (i + 1), r, c⟩ = (leastP ⟨W.take i ++ W.drop (i + 1), r, c⟩ : Int) := by simp [leP, hval2]
    have hld := least_del (r := r) (c := c) hi
    have hbd := leN_bd (p := ⟨W, r, c⟩) (n := 99)
    have hbd2 : leastP ⟨W, r, c⟩ ≤ 99 * W.length := hbd
    simp (disch := omega) [o2.lst.stor, o2.lst.one, splice33, splice31, rd3_w, e1, e2, e3, wrap_i64, h3.stor, h3.one]
    refine plot_Least h3 (by omega) fun H4 x4 => ?_
    replace x4 : HX H3 H4 := x4
    have l4 := x4.len
    have q1 : (leastP ⟨W.take i ++ W.drop (i + 1), r, c⟩ : Int) ≤ leastP ⟨W, r, c⟩ := by omega
    have q2 : (leastP ⟨W, r, c⟩ : Int) ≤ leastP ⟨W.take i ++ W.drop (i + 1), r, c⟩ + 1 := by omega
    rw [hval2, hle2]
    generalize leastP ⟨W.take i ++ W.drop (i + 1), r, c⟩ = m at *
    generalize leastP ⟨W, r, c⟩ = n at *
    simp (disch := omega) [wrap_i64, q1, q2]
    refine law_known (by omega) fun H5 _ => ?_
    simp; exact hK _
end
end Go.Proofs.Ytkmcdiajcnejiaa.Vm
