/- The reference of hair over the machine. -/
import Derived.Test.YtgjlhdggllakbaaDoorHaA
namespace Go.Proofs.YtgjlhdggllakbaaDoor.Vm
open Go
set_option maxRecDepth 100000
set_option linter.unusedSimpArgs false
attribute [-simp] List.getD_eq_getElem?_getD

theorem pad_getD {l : List Int} (i : Nat) : (pad l).getD i 0 = l.getD i 0 := by
  unfold pad
  by_cases h : i < l.length
  · simp only [List.getD_eq_getElem?_getD, List.getElem?_append_left h]
  · rw [getD_big (l := l) (by omega)]
    simp only [List.getD_eq_getElem?_getD, List.getElem?_append_right (Nat.le_of_not_lt h), List.getElem?_replicate]
    split <;> rfl
theorem sheafOf_right {r w : List Int} (h : r.length ≤ 24) {i : Nat} (hi : i < 24) : (sheafOf r w).getD i 0 = r.getD i 0 := by
  have hl := pad_length h
  rw [← pad_getD (l := r) i]
  simp only [sheafOf, List.getD_eq_getElem?_getD]
  rw [List.getElem?_append_left (by omega)]
theorem sheafOf_wrong {r w : List Int} (h : r.length ≤ 24) (i : Nat) : (sheafOf r w).getD (24 + i) 0 = w.getD i 0 := by
  have hl := pad_length h
  rw [← pad_getD (l := w) i]
  simp only [sheafOf, List.getD_eq_getElem?_getD]
  rw [List.getElem?_append_right (by omega), hl, Nat.add_sub_cancel_left]

/-- the reference's array against the sheaf -/
structure RefOf (xs ys : List Int) : Prop where
  len : ys.length = 50
  right : ∀ i, i < 24 → ys.getD (i + 1) 0 = xs.getD i 0
  wrong : ∀ i, i < 24 → ys.getD (26 + i) 0 = xs.getD (24 + i) 0
  zero : ys.getD 0 0 = 0 ∧ ys.getD 25 0 = 0

theorem ref01_open {lim : Nat} {H : Hp} {bv : V} {r w : List Int} (hb : BunV H r w bv) (l1 : r.length ≤ 24) (l2 : w.length ≤ 24) {K : V → Hp → Prop} (hK : ∀ ys, RefOf (sheafOf r w) ys → K (.agg (ints ys)) H) : VCall tbl lim 44 [bv] H K := by
  obtain ⟨ha, hb⟩ := hb
  rename_i rv wv
  refine VCall_fn tbl_at44 rfl ?_
  simp [vf44]
  refine wLoop_inv (fun k s => ∃ (i : Nat) (ar : List Int), s.fr 1 = .lp 0 0 ∧ s.fr 2 = .lp 1 0 ∧ s.fr 3 = .lp 2 0 ∧ s.fr 4 = .int .i64 i ∧ s.L = [[rv, wv], ints (zs 50), ints ar] ∧ s.H = H ∧ i ≤ r.length ∧ k = r.length - i ∧
    ar.length = 50 ∧ (∀ t, ar.getD t 0 = if 1 ≤ t ∧ t ≤ i then r.getD (t - 1) 0 else 0)) ?_ (n := r.length) ?_
  case refine_2 => exact ⟨0, zs 50, by simp, by simp, by simp, by simp, by simp, rfl, by omega, by omega, by simp, fun t => by rw [if_neg (by omega)]; exact zs_getD _ _⟩
  rintro k ⟨fr, L, H'⟩ ⟨i, ar, h1, h2, h3, h4, rfl, rfl, hi, hk, har, hv⟩
  simp only at h1 h2 h3 h4
  simp [h1, h2, h3, h4, rd_two0, ha.len]
  refine cond_bool (fun ht => ?_) fun hf => ?_
  · have ht : i < r.length := by simpa using ht
    obtain ⟨bb, oo, e1, e2⟩ := ha.at ht
    have hw : IntKind.i64.wrap ((i : Int) + 1) = (i : Int) + 1 := wrap_i64 (by omega) (by omega)
    have hin : (0 : Int) ≤ (i : Int) + 1 ∧ (i : Int) + 1 < 25 := by omega
    have hs := splice_ints_one (l := ar) (i := i + 1) (x := r.getD i 0) (by omega)
    simp [h1, h2, h3, h4, rd_two0, e1, e2, hw, viaddrA_in hin, hs, har, show i + 1 + 1 ≤ 50 by omega]
    refine ⟨r.length - (i + 1), by omega, i + 1, by omega, ar.set (i + 1) (r.getD i 0), rfl, by omega, by omega, by simp [har], fun t => ?_⟩
    rw [getD_set (by omega), hv t]
    by_cases e : t = i + 1
    · subst e; simp
    · rw [if_neg e]
      by_cases e2 : 1 ≤ t ∧ t ≤ i
      · rw [if_pos e2, if_pos (by omega)]
      · rw [if_neg e2, if_neg (by omega)]
  · have hf : ¬ i < r.length := by simpa using hf
    have hil : i = r.length := by omega
    subst hil
    simp [h1, h2, h3, h4]
    refine wLoop_inv (fun k s => ∃ (i : Nat) (ar : List Int), s.fr 1 = .lp 0 0 ∧ s.fr 2 = .lp 1 0 ∧ s.fr 3 = .lp 2 0 ∧ s.fr 5 = .int .i64 i ∧ s.L = [[rv, wv], ints (zs 50), ints ar] ∧ s.H = H' ∧ i ≤ w.length ∧ k = w.length - i ∧
      ar.length = 50 ∧ (∀ t, ar.getD t 0 = if 1 ≤ t ∧ t ≤ r.length then r.getD (t - 1) 0 else if 26 ≤ t ∧ t ≤ 25 + i then w.getD (t - 26) 0 else 0)) ?_ (n := w.length) ?_
    case refine_2 =>
      refine ⟨0, ar, by simp [h1], by simp [h2], by simp [h3], by simp, rfl, rfl, by omega, by omega, har, fun t => ?_⟩
      rw [hv t]
      by_cases e : 1 ≤ t ∧ t ≤ r.length
      · rw [if_pos e, if_pos e]
      · rw [if_neg e, if_neg e, if_neg (by omega)]
    clear hv har h1 h2 h3 h4
    rintro k ⟨fr, L, H2⟩ ⟨i, ar, h1, h2, h3, h4, rfl, rfl, hi, hk, har, hv⟩
    simp only at h1 h2 h3 h4
    simp [h1, h2, h3, h4, rd_two1, hb.len]
    refine cond_bool (fun ht => ?_) fun hf => ?_
    · have ht : i < w.length := by simpa using ht
      obtain ⟨bb, oo, e1, e2⟩ := hb.at ht
      have hw : IntKind.i64.wrap ((i : Int) + 1) = (i : Int) + 1 := wrap_i64 (by omega) (by omega)
      have hin : (0 : Int) ≤ (i : Int) + 1 ∧ (i : Int) + 1 < 25 := by omega
      have hs := splice_ints_one (l := ar) (i := 25 + (i + 1)) (x := w.getD i 0) (by omega)
      simp [h1, h2, h3, h4, rd_two1, e1, e2, hw, viaddrA_in hin, hs, har, show 25 + (i + 1) + 1 ≤ 50 by omega]
      refine ⟨w.length - (i + 1), by omega, i + 1, by omega, ar.set (25 + (i + 1)) (w.getD i 0), rfl, by omega, by omega, by simp [har], fun t => ?_⟩
      rw [getD_set (by omega), hv t]
      by_cases e : t = 25 + (i + 1)
      · subst e
        rw [if_pos rfl, if_neg (by omega), if_pos (by omega)]
        congr 1; omega
      · rw [if_neg e]
        by_cases e2 : 1 ≤ t ∧ t ≤ r.length
        · rw [if_pos e2, if_pos e2]
        · rw [if_neg e2, if_neg e2]
          by_cases e3 : 26 ≤ t ∧ t ≤ 25 + i
          · rw [if_pos e3, if_pos (by omega)]
          · rw [if_neg e3, if_neg (by omega)]
    · have hf : ¬ i < w.length := by simpa using hf
      have hil : i = w.length := by omega
      subst hil
      simp [h1, h2, h3, h4, har]
      refine hK ar ⟨har, fun i hi => ?_, fun i hi => ?_, ?_, ?_⟩
      · rw [hv, sheafOf_right l1 hi]
        by_cases e : i < r.length
        · rw [if_pos (by omega)]; rfl
        · rw [if_neg (by omega), if_neg (by omega), getD_big (by omega)]
      · rw [hv, sheafOf_wrong l1 i, if_neg (by omega)]
        by_cases e : i < w.length
        · rw [if_pos (by omega)]; congr 1; omega
        · rw [if_neg (by omega), getD_big (by omega)]
      · rw [hv, if_neg (by omega), if_neg (by omega)]
      · rw [hv, if_neg (by omega), if_neg (by omega)]

/-- one length's two numbers in the reference's array -/
theorem RefOf.at {xs ys : List Int} (h : RefOf xs ys) {m : Nat} (h1 : 1 ≤ m) (h2 : m ≤ 24) : ys.getD m 0 = xs.getD (m - 1) 0 ∧ ys.getD (25 + m) 0 = xs.getD (24 + (m - 1)) 0 := by
  obtain ⟨i, rfl⟩ : ∃ i, m = i + 1 := ⟨m - 1, by omega⟩
  refine ⟨h.right i (by omega), ?_⟩
  rw [show 25 + (i + 1) = 26 + i by omega]
  exact h.wrong i (by omega)

theorem restN_zs (n k : Nat) : restN (zs n) k = 0 := by
  induction k with
  | zero => rfl
  | succ k ih => simp only [restN, zs_getD, ih]; rfl
theorem inRest_zs (n k : Nat) : inRest (zs n) k = 0 := by
  induction k with
  | zero => rfl
  | succ k ih => simp only [inRest, zs_getD, ih]; simp
theorem opened_err {r w : List Int} (h : errOf r w ≠ 0) : opened r w = zs 48 := by simp [opened, h]
theorem opened_ok {r w : List Int} (h : errOf r w = 0) : opened r w = sheafOf r w := by simp [opened, h]

section
variable {lim : Nat} {H : Hp} {bv : V} {r w : List Int} {K : V → Hp → Prop}
end

/-! the law's own pieces -/
section
variable {lim : Nat} {H : Hp} {bv : V} {r w : List Int} {K : V → Hp → Prop}
theorem law_Long (hb : BunV H r w bv) (hK : K (.bool (decide (100 < r.length) || decide (100 < w.length))) H) : VCall tbl lim 5 [bv] H K := by
  obtain ⟨ha, hb⟩ := hb
  refine VCall_fn tbl_at5 rfl ?_
  simp [vf5, ha.len, hb.len]
  by_cases c : 100 < r.length
  · have c' : 100 < (r.length : Int) := by omega
    simp [c']
    simpa [c] using hK
  · have c' : ¬ 100 < (r.length : Int) := by omega
    have e : decide (100 < (w.length : Int)) = decide (100 < w.length) := decide_eq_decide.2 (by omega)
    simp [c', hb.len, e]
    simpa [c] using hK

theorem law_known (hlim : lim ≤ H.length) (hK : ∀ H', HX H H' → K (.bool true) H') : VCall tbl lim 6 [] H K := by
  refine VCall_fn tbl_at6 rfl ?_
  simp [vf6, splice]
  have e1 : [V.int .i64 0, V.int .i64 0, V.int .i64 4] = ints [0, 0, 4] := rfl
  have e2 : [V.int .i64 1] = ints [1] := rfl
  have hb : BunV (H ++ [Blk.row [V.int .i64 0, V.int .i64 0, V.int .i64 4] true, Blk.row [V.int .i64 1] true]) [0, 0, 4] [1] (.agg [.sl H.length 0 3 1, .sl (H.length + 1) 0 1 1]) := by
    refine .mk (.sl (cs := [V.int .i64 0, V.int .i64 0, V.int .i64 4]) (own := true) (l := [0, 0, 4]) (by simp) (by simp) rfl) (.sl (cs := [V.int .i64 1]) (own := true) (l := [1]) (by simp) (by simp) rfl)
  have hx0 : HX H (H ++ [Blk.row [V.int .i64 0, V.int .i64 0, V.int .i64 4] true, Blk.row [V.int .i64 1] true]) := ⟨_, rfl⟩
  have k1 : aboveS (opened [0, 0, 4] [1]) 1 = 5 := by decide +kernel
  have k2 : inchesS (opened [0, 0, 4] [1]) = 13 := by decide +kernel
  have k3 : errOf [0, 0, 4] [1] = 0 := by decide +kernel
  refine hair_Count hb (Nat.le_trans hlim hx0.len) fun H1 h1 => ?_
  simp [k1, k3]
  refine hair_Inches (hb.mono h1) (Nat.le_trans hlim (hx0.trans h1).len) fun H2 h2 => ?_
  simp [k2, k3]
  exact hK H2 ((hx0.trans h1).trans h2)

end

theorem ref01_SameInts {lim : Nat} {H : Hp} {av bv : V} {a b : List Int} (ha : SlV H av a) (hb : SlV H bv b) (hlen : a.length ≤ 4611686018427387904) {K : V → Hp → Prop} (hK : K (.bool (decide (a = b))) H) : VCall tbl lim 31 [av, bv] H K := by
  refine VCall_fn tbl_at31 rfl ?_
  simp [vf31, ha.len, hb.len]
  by_cases hl : a.length = b.length
  · have hl' : (a.length : Int) = b.length := by omega
    simp [hl']
    refine wLoop_inv (fun k s => ∃ i : Nat, s.fr 0 = av ∧ s.fr 1 = bv ∧ s.fr 5 = .int .i64 i ∧ s.L = [] ∧ s.H = H ∧ i ≤ a.length ∧ k = a.length - i ∧ a.take i = b.take i) ?_ (n := a.length) ?_
    case refine_2 => exact ⟨0, by simp, by simp, by simp, rfl, rfl, by omega, by omega, by simp⟩
    rintro k ⟨fr, L, H'⟩ ⟨i, h0, h1, h5, rfl, rfl, hi, hk, heq⟩
    simp only at h0 h1 h5
    simp [h0, h1, h5, ha.len]
    refine cond_bool (fun ht => ?_) fun hf => ?_
    · have ht : i < a.length := by simpa using ht
      obtain ⟨b1, o1, e1, e2⟩ := ha.at ht
      obtain ⟨b2, o2, e3, e4⟩ := hb.at (show i < b.length by omega)
      simp [h0, h1, h5, e1, e2, e3, e4]
      refine cond_bool (fun hn => ?_) fun hn => ?_
      · have hn : ¬ a.getD i 0 = b.getD i 0 := by simpa using hn
        simp
        have : a ≠ b := fun e => hn (by rw [e])
        simpa [this] using hK
      · have hn : a.getD i 0 = b.getD i 0 := by simpa using hn
        simp [h0, h1, h5]
        rw [wrap_i64 (by omega) (by omega)]
        refine ⟨a.length - (i + 1), by omega, i + 1, by omega, by omega, rfl, ?_⟩
        rw [take_snoc ht, take_snoc (show i < b.length by omega), heq, hn]
    · have hf : ¬ i < a.length := by simpa using hf
      have hil : i = a.length := by omega
      subst hil
      rw [List.take_length, hl, List.take_length] at heq
      subst heq
      simp
      simpa using hK
  · have hl' : ¬ (a.length : Int) = b.length := by omega
    simp [hl']
    have : a ≠ b := fun e => hl (by rw [e])
    simpa [this] using hK

theorem ref01_Equal {lim : Nat} {H : Hp} {av bv : V} {r w r' w' : List Int} (ha : BunV H r w av) (hb : BunV H r' w' bv) (h1 : r.length ≤ 4611686018427387904) (h2 : w.length ≤ 4611686018427387904) {K : V → Hp → Prop}
    (hK : K (.bool (decide (r = r') && decide (w = w'))) H) : VCall tbl lim 11 [av, bv] H K := by
  obtain ⟨a1, a2⟩ := ha
  obtain ⟨b1, b2⟩ := hb
  refine VCall_fn tbl_at11 rfl ?_
  simp [vf11, a1.stor, a2.stor, b1.stor, b2.stor]
  refine ref01_SameInts a1 b1 h1 ?_
  by_cases c : r = r'
  · simp [c, a1.stor, a2.stor, b1.stor, b2.stor]
    refine ref01_SameInts a2 b2 h2 ?_
    simp
    simpa [c] using hK
  · simp [c]
    simpa [c] using hK

end Go.Proofs.YtgjlhdggllakbaaDoor.Vm
