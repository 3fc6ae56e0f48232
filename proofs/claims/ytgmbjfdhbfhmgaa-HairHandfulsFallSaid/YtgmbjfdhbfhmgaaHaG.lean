/- Package hair over the machine: hackling, breaking, fractions, weight. -/
import Derived.Test.YtgmbjfdhbfhmgaaHaF
namespace Go.Proofs.Ytgmbjfdhbfhmgaa.Vm
open Go
set_option maxRecDepth 100000
set_option linter.unusedSimpArgs false
set_option linter.unusedVariables false
attribute [-simp] List.getD_eq_getElem?_getD

theorem sideF_congr {f g : HF} {w : Nat} (h : ∀ n, 1 ≤ n → n ≤ 24 → f w n = g w n) : sideF f w = sideF g w := by
  simp only [sideF]
  rw [lastN_congr h]
  exact listN_congr fun n h1 h2 => h n h1 (by have := lastN_le (g w) 24; omega)
theorem abv_mono {f : HF} (hf : ∀ w n, 0 ≤ f w n) : ∀ {j k : Nat}, j ≤ k → abv f j ≤ abv f k
  | j, 0, h => by have : j = 0 := by omega
                  subst this; omega
  | j, k + 1, h => by
    by_cases e : j = k + 1
    · subst e; omega
    · have := abv_mono hf (j := j) (k := k) (by omega)
      have a := hf 0 (24 - k)
      have b := hf 1 (24 - k)
      simp only [abv]; omega
def keepF (f : HF) (l : Int) : HF := fun w n => if l ≤ (n : Int) then f w n else 0
def restF (f : HF) (l : Int) : HF := fun w n => if l ≤ (n : Int) then 0 else f w n
theorem drw_keep {f : HF} (hf : ∀ w n, 0 ≤ f w n) {l : Int} (hl : 1 ≤ l ∧ l ≤ 25) {w n : Nat} (hw : w < 2) (h1 : 1 ≤ n) (h2 : n ≤ 24) : drw f (abv f (kA l)) w n = keepF f l w n := by
  have a := hf 0 n
  have b := hf 1 n
  have kl := kA_at hl
  have key : keepF f l w n = if l ≤ (n : Int) then f w n else 0 := rfl
  rw [key]
  by_cases h : l ≤ (n : Int)
  · have e1 : 24 - (24 - n) = n := by omega
    have m := abv_mono hf (j := 24 - n + 1) (k := kA l) (by omega)
    simp only [abv, e1] at m
    rw [if_pos h]
    simp only [drw]
    rcases (show w = 0 ∨ w = 1 by omega) with rfl | rfl
    · rw [if_pos rfl]; omega
    · rw [if_neg (by omega)]; omega
  · have m := abv_mono hf (j := kA l) (k := 24 - n) (by omega)
    rw [if_neg h]
    simp only [drw]
    rcases (show w = 0 ∨ w = 1 by omega) with rfl | rfl
    · rw [if_pos rfl]; omega
    · rw [if_neg (by omega)]; omega
def hackP (r w : List Int) (l : Int) : Out2 := if errOf r w = 0 then if l < 1 ∨ 25 < l then errQ 1 else part2 (keepF (op r w) l) (restF (op r w) l) else errQ (errOf r w)

section
variable {lim : Nat} {H : Hp} {av bv : V} {r w r' w' : List Int} {K : V → Hp → Prop}

theorem hair_Hackle (hb : BunV H r w bv) (hlim : lim ≤ H.length) {n : Int} (hn : I64 n)
    (hK : ∀ H' u v, HX H H' → OwnB H.length H' (hackP r w n).1 (hackP r w n).2.1 u → OwnB H.length H' (hackP r w n).2.2.1 (hackP r w n).2.2.2.1 v → K (.tup [u, v, .int .i64 (hackP r w n).2.2.2.2]) H') : VCall tbl lim 40 [bv, .int .i64 n] H K := by
  refine VCall_fn tbl_at40 rfl ?_
  simp [vf40, hb.stor.1, hb.load]
  refine hair_open2 hb hlim (fun he H1 x1 => ?_) fun he H1 x1 => ?_
  · have := hK H1 (.agg [.snil, .snil]) (.agg [.snil, .snil]) x1 (by simp [hackP, he, errQ]; exact .zero) (by simp [hackP, he, errQ]; exact .zero)
    simp [he]
    simpa [hackP, he, errQ] using this
  simp
  refine cond_bool (fun h1 => ?_) fun h1 => ?_
  · have h1 : n < 1 ∨ 25 < n := by simpa using h1
    have := hK H1 (.agg [.snil, .snil]) (.agg [.snil, .snil]) x1 (by simp [hackP, he, h1, errQ]; exact .zero) (by simp [hackP, he, h1, errQ]; exact .zero)
    simp
    simpa [hackP, he, h1, errQ] using this
  have h1 : ¬ (n < 1 ∨ 25 < n) := by simp at h1; omega
  simp
  refine sheaf_above2 op_bd' hn ?_
  have hA := abv_nonneg (f := op r w) op_bd' (kA n)
  have hA2 := kA_le (l := n)
  have hk : ∀ a m, a < 2 → 1 ≤ m → m ≤ 24 → drw (op r w) (abv (op r w) (kA n)) a m = keepF (op r w) n a m := fun a m ha p q => drw_keep (fun x y => (op_bd x y).1) (by omega) ha p q
  have hr : ∀ a m, a < 2 → 1 ≤ m → m ≤ 24 → subF (op r w) (drw (op r w) (abv (op r w) (kA n))) a m = restF (op r w) n a m := by
    intro a m ha p q
    simp only [subF]; rw [hk a m ha p q]; simp only [keepF, restF]; split <;> omega
  simp
  refine sheaf_draw (by omega) op_bd' ?_
  simp
  refine hair_trimmed (Nat.le_refl _) fun H2 u x2 o2 => ?_
  simp [o2.stor.1, o2.stor.2]
  refine hair_trimmed (Nat.le_refl _) fun H3 v x3 o3 => ?_
  rw [sideF_congr (hk 0 · (by omega)), sideF_congr (hk 1 · (by omega))] at o2
  have o3 : OwnB H2.length H3 (sideF (subF (op r w) (drw (op r w) (abv (op r w) (kA n)))) 0) (sideF (subF (op r w) (drw (op r w) (abv (op r w) (kA n)))) 1) v := o3
  rw [sideF_congr (hr 0 · (by omega)), sideF_congr (hr 1 · (by omega))] at o3
  obtain ⟨p1, p2⟩ := o2.mono x3
  obtain ⟨q1, q2⟩ := o3
  simp [p1.sl.stor, p2.sl.stor, p1.sl.one, p2.sl.one, q1.sl.stor, q2.sl.stor, q1.sl.one, q2.sl.one]
  have := hK H3 _ _ ((x1.trans x2).trans x3) (by simp [hackP, he, h1, part2]; exact OwnB.mk (p1.le x1.len) (p2.le x1.len))
    (by simp [hackP, he, h1, part2]; exact OwnB.mk (q1.le (x1.trans x2).len) (q2.le (x1.trans x2).len))
  simpa [hackP, he, h1, part2] using this

theorem mk50_step' {f h : HF} {i : Nat} (hi : i < 24) : mk50 (fun w n => if n ≤ i then h w n else f w n) = mk50 (fun w n => if n ≤ i + 1 then (if n = i + 1 then f w n else h w n) else f w n) := by
  refine mk50_congr fun w n _ _ _ => ?_
  grind

theorem ref01_Hackle (hb : BunV H r w bv) (hlim : lim ≤ H.length) {n : Int} (hn : I64 n)
    (hK : ∀ H' u v, HX H H' → OwnB H.length H' (hackP r w n).1 (hackP r w n).2.1 u → OwnB H.length H' (hackP r w n).2.2.1 (hackP r w n).2.2.2.1 v → K (.tup [u, v, .int .i64 (hackP r w n).2.2.2.2]) H') : VCall tbl lim 41 [bv, .int .i64 n] H K := by
  refine VCall_fn tbl_at41 rfl ?_
  simp [vf41, hb.stor.1, hb.load]
  refine ref01_Validate hb ?_
  simp
  refine cond_ndec (fun he => ?_) fun he => ?_
  · have := hK H (.agg [.snil, .snil]) (.agg [.snil, .snil]) .refl (by simp [hackP, he, errQ]; exact .zero) (by simp [hackP, he, errQ]; exact .zero)
    simp
    simpa [hackP, he, errQ] using this
  simp
  refine cond_bool (fun h1 => ?_) fun h1 => ?_
  · have h1 : n < 1 ∨ 25 < n := by simpa using h1
    have := hK H (.agg [.snil, .snil]) (.agg [.snil, .snil]) .refl (by simp [hackP, he, h1, errQ]; exact .zero) (by simp [hackP, he, h1, errQ]; exact .zero)
    simp
    simpa [hackP, he, h1, errQ] using this
  have h1 : ¬ (n < 1 ∨ 25 < n) := by simp at h1; omega
  simp [hb.stor.1, hb.load]
  refine ref01_open2 hb he ?_
  simp [hb.stor.1, hb.load]
  refine ref01_open2 hb he ?_
  simp
  refine wLoop_up 24 (fun i fr L H' => (fr 1 = .int .i64 n ∧ fr 4 = .lp 1 0 ∧ fr 5 = .lp 2 0 ∧ fr 6 = .int .i64 0 ∧ fr 8 = .lp 3 0 ∧ fr 9 = .lp 4 0 ∧ fr 10 = .int .i64 ((i : Int) + 1)) ∧
    L = [cellsV bv, [.snil, .snil], [.snil, .snil], ints (mk50 fun a m => if m ≤ i then keepF (op r w) n a m else op r w a m), ints (mk50 fun a m => if m ≤ i then restF (op r w) n a m else op r w a m)] ∧ H' = H) ⟨by simp, ?_, rfl⟩ ?_
  · simp; exact ⟨congrArg ints (mk50_congr fun a n _ h1 _ => by rw [if_neg (by omega)]), congrArg ints (mk50_congr fun a n _ h1 _ => by rw [if_neg (by omega)])⟩
  rintro i hi fr L H' ⟨⟨f1, f4, f5, f6, f8, f9, f10⟩, rfl, rfl⟩
  simp [f1, f4, f5, f6, f8, f9, f10]
  refine cond_dec (fun ht => ?_) fun hf => ?_
  · simp [f1, f4, f5, f6, f8, f9, f10]
    refine cond_dec (fun hg => ?_) fun hg => ?_
    · simp (disch := omega) [f1, f4, f5, f6, f8, f9, f10, leT, sp50_0, sp50_1, wrap_i64]
      refine ⟨by omega, congrArg ints ?_, congrArg ints (mk50_step ?_ ?_)⟩
      · refine mk50_congr fun a m _ _ _ => ?_
        by_cases e : m = i + 1
        · subst e; simp [keepF, hg]
        · simp [show m ≤ i + 1 ↔ m ≤ i by omega]
      · simp only [restF]; rw [if_pos (by push_cast; omega)]
      · simp only [restF]; rw [if_pos (by push_cast; omega)]
    · simp (disch := omega) [f1, f4, f5, f6, f8, f9, f10, leT, sp50_0, sp50_1, wrap_i64]
      refine ⟨by omega, congrArg ints (mk50_step ?_ ?_), congrArg ints ?_⟩
      · simp only [keepF]; rw [if_neg (by push_cast; omega)]
      · simp only [keepF]; rw [if_neg (by push_cast; omega)]
      · refine mk50_congr fun a m _ _ _ => ?_
        by_cases e : m = i + 1
        · subst e; simp [restF]; omega
        · simp [show m ≤ i + 1 ↔ m ≤ i by omega]
  · have : i = 24 := by omega
    subst this
    have e1 : mk50 (fun a m => if m ≤ 24 then keepF (op r w) n a m else op r w a m) = mk50 (keepF (op r w) n) := mk50_congr fun w n _ _ h => by rw [if_pos h]
    have e2 : mk50 (fun a m => if m ≤ 24 then restF (op r w) n a m else op r w a m) = mk50 (restF (op r w) n) := mk50_congr fun w n _ _ h => by rw [if_pos h]
    rw [e1, e2]
    simp [f1, f4, f5, f6, f8, f9, f10]
    refine ref01_tie (Nat.le_refl _) fun H2 u x2 o2 => ?_
    simp [f9, o2.stor.1, o2.stor.2]
    refine ref01_tie (Nat.le_refl _) fun H3 v x3 o3 => ?_
    obtain ⟨p1, p2⟩ := o2.mono x3
    obtain ⟨q1, q2⟩ := o3
    simp [f4, f5, p1.sl.stor, p2.sl.stor, p1.sl.one, p2.sl.one, q1.sl.stor, q2.sl.stor, q1.sl.one, q2.sl.one]
    have := hK H3 _ _ (x2.trans x3) (by simp [hackP, he, h1, part2]; exact OwnB.mk p1 p2) (by simp [hackP, he, h1, part2]; exact OwnB.mk (q1.le x2.len) (q2.le x2.len))
    simpa [hackP, he, h1, part2] using this

/-! breaking hairs -/
def snapT (f : HF) (l : Nat) (n : Int) (w : Nat) : Int := if w = 0 then min n (f 0 l) else min (n - min n (f 0 l)) (f 1 l)
def snapF (f : HF) (l a : Nat) (n : Int) : HF := fun w m => (if m = l then f w m - snapT f l n w else f w m) + (if m = a then snapT f l n w else 0) + (if m = l - a then snapT f l n w else 0)
def snapP (r w : List Int) (l a n : Int) : Out :=
  if errOf r w = 0 then if l < 2 ∨ 24 < l ∨ a < 1 ∨ l ≤ a ∨ n < 0 then errP 1 else if op r w 0 l.toNat + op r w 1 l.toNat < n then errP 6 else outP (snapF (op r w) l.toNat a.toNat n) else errP (errOf r w)

/-! fractions -/
theorem hair_ratio {a b : Nat} (hb : 0 < b) (ha' : a ≤ 4611686018427387904) (hb' : b ≤ 4611686018427387904) (hK : K (.agg [.int .i64 (a / Nat.gcd a b : Nat), .int .i64 (b / Nat.gcd a b : Nat)]) H) : VCall tbl lim 86 [.int .i64 a, .int .i64 b] H K := by
  refine VCall_fn tbl_at86 rfl ?_
  simp [vf86]
  refine wLoop_m (n := b) (fun n fr L H' => ∃ x y : Nat, (fr 0 = .int .i64 a ∧ fr 1 = .int .i64 b ∧ fr 4 = .lp 0 0 ∧ fr 5 = .int .i64 x ∧ fr 6 = .int .i64 y) ∧ L = [[.int .i64 0, .int .i64 0]] ∧ H' = H ∧ Nat.gcd x y = Nat.gcd a b ∧ n = y ∧ x ≤ 4611686018427387904 ∧ y ≤ 4611686018427387904) ⟨a, b, by simp, rfl, rfl, rfl, rfl, ha', hb'⟩ ?_
  rintro n fr L H' ⟨x, y, ⟨f0, f1, f4, f5, f6⟩, rfl, rfl, hg, rfl, hx, hy⟩
  simp [f0, f1, f4, f5, f6]
  refine cond_ndec (fun hz => ?_) fun hz => ?_
  · have hy0 : n ≠ 0 := by intro h; subst h; exact hz rfl
    obtain ⟨z, hzd⟩ : ∃ z, z = x % n := ⟨_, rfl⟩
    have hr : (x : Int).tmod n = (z : Nat) := by rw [tmod_nat, hzd]
    have hlt : z < n := by rw [hzd]; exact Nat.mod_lt _ (by omega)
    have hg' : Nat.gcd n z = Nat.gcd a b := by rw [hzd, Nat.gcd_comm, ← Nat.gcd_rec, Nat.gcd_comm]; exact hg
    simp (disch := omega) [f0, f1, f4, f5, f6, hr]
    exact ⟨z, hlt, n, z, ⟨rfl, rfl⟩, hg', rfl, hy, by omega⟩
  · have hy0 : n = 0 := by omega
    subst hy0
    rw [Nat.gcd_zero_right] at hg
    subst hg
    have hpos : 0 < Nat.gcd a b := Nat.gcd_pos_of_pos_right _ hb
    generalize Nat.gcd a b = g at *
    have e1 : (a : Int).tdiv g = ((a / g : Nat) : Int) := rfl
    have e2 : (b : Int).tdiv g = ((b / g : Nat) : Int) := rfl
    have l1 := Nat.div_le_self a g
    have l2 := Nat.div_le_self b g
    generalize a / g = p at *
    generalize b / g = q at *
    simp (disch := omega) [f0, f1, f4, f5, f6, e1, e2, wrap_i64]
    exact hK
theorem ref01_Fraction {a b : Nat} (hb : 0 < b) (ha' : a ≤ 4611686018427387904) (hb' : b ≤ 4611686018427387904) (hK : K (.agg [.int .i64 (a / Nat.gcd a b : Nat), .int .i64 (b / Nat.gcd a b : Nat)]) H) : VCall tbl lim 94 [.int .i64 a, .int .i64 b] H K := by
  refine VCall_fn tbl_at94 rfl ?_
  simp [vf94]
  refine wLoop_m (n := b) (fun n fr L H' => ∃ x y : Nat, (fr 0 = .int .i64 a ∧ fr 1 = .int .i64 b ∧ fr 4 = .lp 0 0 ∧ fr 5 = .int .i64 x ∧ fr 6 = .int .i64 y) ∧ L = [[.int .i64 0, .int .i64 0]] ∧ H' = H ∧ Nat.gcd x y = Nat.gcd a b ∧ n = y ∧ x ≤ 4611686018427387904 ∧ y ≤ 4611686018427387904) ⟨a, b, by simp, rfl, rfl, rfl, rfl, ha', hb'⟩ ?_
  rintro n fr L H' ⟨x, y, ⟨f0, f1, f4, f5, f6⟩, rfl, rfl, hg, rfl, hx, hy⟩
  simp [f0, f1, f4, f5, f6]
  refine cond_ndec (fun hz => ?_) fun hz => ?_
  · have hy0 : n ≠ 0 := by intro h; subst h; exact hz rfl
    obtain ⟨z, hzd⟩ : ∃ z, z = x % n := ⟨_, rfl⟩
    have hr : (x : Int).tmod n = (z : Nat) := by rw [tmod_nat, hzd]
    have hlt : z < n := by rw [hzd]; exact Nat.mod_lt _ (by omega)
    have hg' : Nat.gcd n z = Nat.gcd a b := by rw [hzd, Nat.gcd_comm, ← Nat.gcd_rec, Nat.gcd_comm]; exact hg
    simp (disch := omega) [f0, f1, f4, f5, f6, hr]
    exact ⟨z, hlt, n, z, ⟨rfl, rfl⟩, hg', rfl, hy, by omega⟩
  · have hy0 : n = 0 := by omega
    subst hy0
    rw [Nat.gcd_zero_right] at hg
    subst hg
    have hpos : 0 < Nat.gcd a b := Nat.gcd_pos_of_pos_right _ hb
    generalize Nat.gcd a b = g at *
    have e1 : (a : Int).tdiv g = ((a / g : Nat) : Int) := rfl
    have e2 : (b : Int).tdiv g = ((b / g : Nat) : Int) := rfl
    have l1 := Nat.div_le_self a g
    have l2 := Nat.div_le_self b g
    generalize a / g = p at *
    generalize b / g = q at *
    simp (disch := omega) [f0, f1, f4, f5, f6, e1, e2, wrap_i64]
    exact hK
end
end Go.Proofs.Ytgmbjfdhbfhmgaa.Vm
