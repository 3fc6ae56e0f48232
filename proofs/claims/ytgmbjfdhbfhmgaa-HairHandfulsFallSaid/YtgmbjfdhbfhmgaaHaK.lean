/- Laws of hair over the machine. -/
import Derived.Test.YtgmbjfdhbfhmgaaHaJ
namespace Go.Proofs.Ytgmbjfdhbfhmgaa.Vm
open Go
set_option maxRecDepth 100000
set_option linter.unusedSimpArgs false
set_option linter.unusedVariables false
attribute [-simp] List.getD_eq_getElem?_getD

theorem hackP_len {r w : List Int} {n : Int} : (hackP r w n).1.length ≤ 24 ∧ (hackP r w n).2.1.length ≤ 24 ∧ (hackP r w n).2.2.1.length ≤ 24 ∧ (hackP r w n).2.2.2.1.length ≤ 24 := by
  unfold hackP; split
  · split
    · simp [errQ]
    · exact ⟨listN_len24, listN_len24, listN_len24, listN_len24⟩
  · simp [errQ]
theorem turnP_len {r w : List Int} : (turnP r w).1.length ≤ 24 ∧ (turnP r w).2.1.length ≤ 24 := by
  unfold turnP; split
  · exact outP_len
  · simp [errP]
theorem snapP_len {r w : List Int} {l a n : Int} : (snapP r w l a n).1.length ≤ 24 ∧ (snapP r w l a n).2.1.length ≤ 24 := by
  unfold snapP; split
  · split
    · simp [errP]
    · split
      · simp [errP]
      · exact outP_len
  · simp [errP]

section
variable {lim : Nat} {H : Hp} {av bv : V} {r w r' w' : List Int} {K : V → Hp → Prop}

theorem law_HairShares (hb : BunV H r w bv) (hlim : lim ≤ H.length) {n : Int} (hn : I64 n) (hK : ∀ H', K (.bool true) H') : VCall tbl lim 10 [bv, .int .i64 n] H K := by
  obtain ⟨hx, hy⟩ := hb
  rename_i rv wv
  have hb : BunV H r w (.agg [rv, wv]) := .mk hx hy
  refine VCall_fn tbl_at10 rfl ?_
  simp [vf10, hx.stor, hy.stor, hx.one, hy.one]
  refine law_Long hb ?_
  simp
  refine cond_bool (fun hl => ?_) fun hl => ?_
  · simp; refine law_known hlim fun H1 _ => ?_; simp; exact hK H1
  simp [hx.stor, hy.stor]
  refine hair_Share hb hlim hn fun H1 x1 => ?_
  have l1 := x1.len
  simp [hx.stor, hy.stor]
  refine ref01_Share (hb.mono x1) (by omega) hn ?_
  simp [hx.stor, hy.stor]
  refine hair_Mean (hb.mono x1) (by omega) fun H2 x2 => ?_
  have l2 := x2.len
  simp [hx.stor, hy.stor]
  refine ref01_Mean (hb.mono (x1.trans x2)) (by omega) ?_
  simp [hx.stor, hy.stor]
  refine hair_Mats (hb.mono (x1.trans x2)) (by omega) fun H3 x3 => ?_
  have l3 := x3.len
  simp [hx.stor, hy.stor]
  refine ref01_Mats (hb.mono ((x1.trans x2).trans x3)) (by omega) ?_
  simp [veqA_2]
  refine law_known (by omega) fun H4 _ => ?_
  simp
  exact hK H4

theorem rnd_mono {a b : Nat} (h : a ≤ b) : rnd a ≤ rnd b := by
  unfold rnd
  split <;> split <;> omega

theorem law_HairWeighs (hb : BunV H r w bv) (hlim : lim ≤ H.length) {n : Int} (hn : I64 n) (hK : ∀ H', K (.bool true) H') : VCall tbl lim 15 [bv, .int .i64 n] H K := by
  obtain ⟨hx, hy⟩ := hb
  rename_i rv wv
  have hb : BunV H r w (.agg [rv, wv]) := .mk hx hy
  refine VCall_fn tbl_at15 rfl ?_
  simp [vf15, hx.stor, hy.stor, hx.one, hy.one]
  refine law_Long hb ?_
  simp
  refine cond_bool (fun hl => ?_) fun hl => ?_
  · simp; refine law_known hlim fun H1 _ => ?_; simp; exact hK H1
  simp [hx.stor, hy.stor]
  refine hair_Weight hb hlim hn fun H1 x1 => ?_
  have l1 := x1.len
  simp [hx.stor, hy.stor]
  refine ref01_Weight (hb.mono x1) (by omega) hn ?_
  simp
  refine cond_bool (fun hz => ?_) fun hz => ?_
  · simp; refine law_known (by omega) fun H2 _ => ?_; simp; exact hK H2
  have he : (weightP r w n).2 = 0 ∧ ¬ n = 0 := by simpa using hz
  have hd : errOf r w = 0 ∧ 0 ≤ n ∧ n ≤ 30 := by
    have h := he.1
    unfold weightP at h
    split at h
    · rename_i e
      split at h
      · simp at h
      · exact ⟨e, by omega, by omega⟩
    · rename_i e; exact absurd h e
  have e1 : weightP r w n = (((rnd ((inF (op r w)).toNat * (100 + n).toNat) : Nat) : Int), 0) := by
    simp [weightP, hd.1]; omega
  have e2 : weightP r w (n - 1) = (((rnd ((inF (op r w)).toNat * (100 + (n - 1)).toNat) : Nat) : Int), 0) := by
    simp [weightP, hd.1]; omega
  have hm : rnd ((inF (op r w)).toNat * (100 + (n - 1)).toNat) ≤ rnd ((inF (op r w)).toNat * (100 + n).toNat) := rnd_mono (Nat.mul_le_mul_left _ (by omega))
  simp (disch := omega) [hx.stor, hy.stor, wrap_i64]
  refine hair_Weight (hb.mono x1) (by omega) ⟨by omega, by omega⟩ fun H2 x2 => ?_
  rw [e1, e2]
  have hm' : ((rnd ((inF (op r w)).toNat * (100 + (n - 1)).toNat) : Nat) : Int) ≤ ((rnd ((inF (op r w)).toNat * (100 + n).toNat) : Nat) : Int) := by omega
  simp [hm]
  refine law_known (by have := x2.len; omega) fun H3 _ => ?_
  simp
  exact hK H3

theorem law_HairHackles (hb : BunV H r w bv) (hlim : lim ≤ H.length) {n : Int} (hn : I64 n) (hK : ∀ H', K (.bool true) H') : VCall tbl lim 8 [bv, .int .i64 n] H K := by
  obtain ⟨hx, hy⟩ := hb
  rename_i rv wv
  have hb : BunV H r w (.agg [rv, wv]) := .mk hx hy
  refine VCall_fn tbl_at8 rfl ?_
  simp [vf8, hx.stor, hy.stor, hx.one, hy.one]
  refine law_Long hb ?_
  simp
  refine cond_bool (fun hl => ?_) fun hl => ?_
  · simp; refine law_known hlim fun H1 _ => ?_; simp; exact hK H1
  simp [hx.stor, hy.stor]
  refine hair_Hackle hb hlim hn fun H1 _ _ x1 o1 o1' => ?_
  have l1 := x1.len
  obtain ⟨a1, a2⟩ := o1
  obtain ⟨b1, b2⟩ := o1'
  simp [a1.sl.stor, a2.sl.stor, a1.sl.one, a2.sl.one, b1.sl.stor, b2.sl.stor, b1.sl.one, b2.sl.one, hx.stor, hy.stor]
  refine ref01_Hackle (hb.mono x1) (by omega) hn fun H2 _ _ x2 o2 o2' => ?_
  have l2 := x2.len
  obtain ⟨c1, c2⟩ := o2
  obtain ⟨d1, d2⟩ := o2'
  simp [c1.sl.stor, c2.sl.stor, c1.sl.one, c2.sl.one, d1.sl.stor, d2.sl.stor, d1.sl.one, d2.sl.one, hx.stor, hy.stor]
  refine hair_Turn (hb.mono (x1.trans x2)) (by omega) fun H3 _ x3 o3 => ?_
  have l3 := x3.len
  obtain ⟨e1, e2⟩ := o3
  simp [e1.sl.stor, e2.sl.stor, e1.sl.one, e2.sl.one, hx.stor, hy.stor]
  refine ref01_Turn (hb.mono ((x1.trans x2).trans x3)) (by omega) fun H4 _ x4 o4 => ?_
  have l4 := x4.len
  obtain ⟨f1, f2⟩ := o4
  have t := hackP_len (r := r) (w := w) (n := n)
  have t2 := turnP_len (r := r) (w := w)
  simp [f1.sl.stor, f2.sl.stor, f1.sl.one, f2.sl.one, a1.sl.stor, a2.sl.stor, c1.sl.stor, c2.sl.stor]
  refine ref01_Equal (BunV.mk (a1.sl.mono ((x2.trans x3).trans x4)) (a2.sl.mono ((x2.trans x3).trans x4))) (BunV.mk (c1.sl.mono (x3.trans x4)) (c2.sl.mono (x3.trans x4))) (by omega) (by omega) ?_
  simp [b1.sl.stor, b2.sl.stor, d1.sl.stor, d2.sl.stor]
  refine ref01_Equal (BunV.mk (b1.sl.mono ((x2.trans x3).trans x4)) (b2.sl.mono ((x2.trans x3).trans x4))) (BunV.mk (d1.sl.mono (x3.trans x4)) (d2.sl.mono (x3.trans x4))) (by omega) (by omega) ?_
  simp [e1.sl.stor, e2.sl.stor, f1.sl.stor, f2.sl.stor]
  refine ref01_Equal (BunV.mk (e1.sl.mono x4) (e2.sl.mono x4)) (BunV.mk f1.sl f2.sl) (by omega) (by omega) ?_
  simp [a1.sl.stor, a2.sl.stor, b1.sl.stor, b2.sl.stor]
  refine hair_Mix (BunV.mk (a1.sl.mono ((x2.trans x3).trans x4)) (a2.sl.mono ((x2.trans x3).trans x4))) (BunV.mk (b1.sl.mono ((x2.trans x3).trans x4)) (b2.sl.mono ((x2.trans x3).trans x4))) (by omega) fun H5 _ x5 o5 => ?_
  have l5 := x5.len
  obtain ⟨g1, g2⟩ := o5
  simp [g1.sl.stor, g2.sl.stor, g1.sl.one, g2.sl.one, hx.stor, hy.stor]
  refine hair_Same (BunV.mk g1.sl g2.sl) (hb.mono ((((x1.trans x2).trans x3).trans x4).trans x5)) (by omega) fun H6 x6 => ?_
  have l6 := x6.len
  by_cases he : (hackP r w n).2.2.2.2 = 0
  · have hp : errOf r w = 0 ∧ hackP r w n = part2 (keepF (op r w) n) (restF (op r w) n) := by
      unfold hackP at he ⊢
      split at he
      · rename_i e
        split at he
        · simp [errQ] at he
        · rename_i h1; exact ⟨e, by rw [if_pos e, if_neg h1]⟩
      · rename_i e; exact absurd he e
    have hk : ∀ a m, a < 2 → 1 ≤ m → m ≤ 24 → 0 ≤ keepF (op r w) n a m ∧ keepF (op r w) n a m ≤ 1000000 := by
      intro a m _ _ _
      have := op_bd (r := r) (w := w) a m
      simp only [keepF]; split <;> omega
    have hr : ∀ a m, a < 2 → 1 ≤ m → m ≤ 24 → 0 ≤ restF (op r w) n a m ∧ restF (op r w) n a m ≤ 1000000 := by
      intro a m _ _ _
      have := op_bd (r := r) (w := w) a m
      simp only [restF]; split <;> omega
    have hm := mix_parts (h := op r w) hk hr (fun a b => (op_bd a b).2) fun a m _ _ _ => by simp only [keepF, restF]; split <;> omega
    rw [hp.2]
    simp only [part2]
    rw [hm]
    have hs := same_of (err_side (f := op r w) fun a b _ _ _ => op_bd a b) hp.1 fun a m h1 h2 h3 => op_side (f := op r w) (fun a b _ _ _ => op_bd a b) h1 h2 h3
    simp [hs.1, hs.2]
    refine law_known (by omega) fun H7 _ => ?_
    simp
    exact hK H7
  · simp [he]
    refine law_known (by omega) fun H7 _ => ?_
    simp
    exact hK H7
end
end Go.Proofs.Ytgmbjfdhbfhmgaa.Vm
