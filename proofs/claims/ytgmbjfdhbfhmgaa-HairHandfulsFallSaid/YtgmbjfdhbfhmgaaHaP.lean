/- Laws of hair over the machine: Cut. -/
import Derived.Test.YtgmbjfdhbfhmgaaHaO
namespace Go.Proofs.Ytgmbjfdhbfhmgaa.Vm
open Go
set_option maxRecDepth 100000
set_option linter.unusedSimpArgs false
set_option linter.unusedVariables false
attribute [-simp] List.getD_eq_getElem?_getD

/-- what is left behind i lengths, from the longest on -/
def cutH (f g : HF) : Nat → HF
  | 0 => f
  | i + 1 => cutF (cutH f g i) (24 - i) (g 0 (24 - i) + g 1 (24 - i))
def cutLo (f g : HF) : Nat → Int
  | 0 => 0
  | i + 1 => cutLo f g i + lostF (cutH f g i) (24 - i) (g 0 (24 - i) + g 1 (24 - i)) (i + 1)
def cutNo (f g : HF) (i : Nat) : Bool := decide (0 < remF (cutH f g i) (24 - i) (g 0 (24 - i) + g 1 (24 - i)) (i + 1))
def cutBad (f g : HF) : Nat → Bool
  | 0 => false
  | i + 1 => cutBad f g i || cutNo f g i
theorem cutBad_mono {f g : HF} {i : Nat} (h : cutBad f g i = true) : ∀ {j}, i ≤ j → cutBad f g j = true := by
  intro j hj
  induction hj with
  | refl => exact h
  | step _ ih => simp only [cutBad, ih, Bool.true_or]
theorem cutH_bd {f g : HF} {B : Int} (hf : ∀ w n, 0 ≤ f w n ∧ f w n ≤ B) : ∀ i w n, 0 ≤ cutH f g i w n ∧ cutH f g i w n ≤ B
  | 0, w, n => hf w n
  | i + 1, w, n => cutF_bd (cutH_bd hf i) w n
theorem cutLo_bd {f g : HF} (hf : ∀ w n, 0 ≤ f w n ∧ f w n ≤ 1000000) : ∀ i : Nat, i ≤ 24 → 0 ≤ cutLo f g i ∧ cutLo f g i ≤ i * 1200000000
  | 0, _ => by simp [cutLo]
  | i + 1, h => by
    have a := cutLo_bd hf (g := g) i (by omega)
    have b := lost_bd (f := cutH f g i) (L := 24 - i) (m := g 0 (24 - i) + g 1 (24 - i)) (cutH_bd hf i) (i + 1) (by omega)
    simp only [cutLo]; omega
def cutP (r w r' w' : List Int) : List Int × List Int × Int × Int :=
  if er2 r w r' w' = 0 then
    if cutBad (op r w) (op r' w') 24 then ([], [], 0, 6) else (sideF (cutH (op r w) (op r' w') 24) 0, sideF (cutH (op r w) (op r' w') 24) 1, cutLo (op r w) (op r' w') 24, 0)
  else ([], [], 0, er2 r w r' w')
theorem op_mil {r w : List Int} (way n : Nat) : 0 ≤ op r w way n ∧ op r w way n ≤ 1000000 := by
  simp only [op]
  split
  · rename_i h
    have := opened_mem (r := r) (w := w)
    obtain ⟨_, _, h1, h2, h3, h4⟩ := errOf_zero h
    have a1 := anyNeg_false h1
    have a2 := anyNeg_false h2
    have a3 := anyBig_false h3
    have a4 := anyBig_false h4
    split
    · by_cases hn : n - 1 < r.length
      · have hm : r.getD (n - 1) 0 ∈ r := by simp [List.getD_eq_getElem?_getD, hn]
        exact ⟨a1 _ hm, a3 _ hm⟩
      · rw [getD_big (by omega)]; omega
    · by_cases hn : n - 1 < w.length
      · have hm : w.getD (n - 1) 0 ∈ w := by simp [List.getD_eq_getElem?_getD, hn]
        exact ⟨a2 _ hm, a4 _ hm⟩
      · rw [getD_big (by omega)]; omega
  · omega

section
variable {lim : Nat} {H : Hp} {K : V → Hp → Prop} {r w r' w' : List Int} {av bv : V}

theorem hair_Cut (ha : BunV H r w av) (hb : BunV H r' w' bv) (hlim : lim ≤ H.length)
    (hK : ∀ H' v, HX H H' → OwnB H.length H' (cutP r w r' w').1 (cutP r w r' w').2.1 v → K (.tup [v, .int .i64 (cutP r w r' w').2.2.1, .int .i64 (cutP r w r' w').2.2.2]) H') : VCall tbl lim 57 [av, bv] H K := by
  refine VCall_fn tbl_at57 rfl ?_
  simp [vf57, ha.stor.1, hb.stor.1, ha.load, hb.load]
  refine hair_openBoth ha hb hlim (fun he H1 x1 => ?_) fun he H1 x1 => ?_
  · have := hK H1 (.agg [.snil, .snil]) x1
    simp only [cutP, he, if_false] at this
    simp [he, rd]
    exact this (.mk .nil .nil)
  replace x1 : HX H H1 := x1
  have l1 := x1.len
  have hk := fun H' v h => hK H' v (x1.trans h)
  simp only [cutP, he, if_true] at hk
  have of9 := op_mil (r := r) (w := w)
  have og9 := op_mil (r := r') (w := w')
  generalize op r w = f at *
  generalize op r' w' = g at *
  simp
  refine wLoop_up 24 (fun i fr L H' => ∃ X : Lo, (fr 4 = .lp 2 0 ∧ fr 5 = .int .i64 (cutLo f g i) ∧ fr 7 = .lp 3 0 ∧ fr 8 = .lp 4 0 ∧ fr 9 = .int .i64 (23 - (i : Int))) ∧ L = cellsV av :: cellsV bv :: [.snil, .snil] :: ints (mk48 (cutH f g i)) :: ints (mk48 g) :: X ∧ H' = H1 ∧ cutBad f g i = false) ⟨[], by simp [cutLo], by simp [cutH], rfl, rfl⟩ ?_
  rintro i hi fr L H' ⟨X, ⟨f4, f5, f7, f8, f9⟩, rfl, rfl, hbad⟩
  have hXc : ∀ c : List V, (X ++ [c])[X.length]? = some c := fun _ => List.getElem?_concat_length
  simp [f4, f5, f7, f8, f9]
  refine cond_dec (fun ht => ?_) fun hfl => ?_
  · obtain ⟨k, hk2⟩ : ∃ k, k = 23 - i := ⟨_, rfl⟩
    have ek : (23 : Int) - i = k := by omega
    have hb2 := cutH_bd (g := g) of9 i
    have g0 := og9 0 (k + 1)
    have g1 := og9 1 (k + 1)
    have e24 : 24 - i = k + 1 := by omega
    have e3 : 24 - k = i + 1 := by omega
    have lb := cutLo_bd (g := g) of9 i (by omega)
    have lb2 := cutLo_bd (g := g) of9 (i + 1) (by omega)
    have el : cutLo f g (i + 1) = cutLo f g i + lostF (cutH f g i) (k + 1) (g 0 (k + 1) + g 1 (k + 1)) (i + 1) := by simp only [cutLo, e24]
    have eh : cutH f g (i + 1) = cutF (cutH f g i) (k + 1) (g 0 (k + 1) + g 1 (k + 1)) := by simp only [cutH, e24]
    have en : cutNo f g i = decide (0 < remF (cutH f g i) (k + 1) (g 0 (k + 1) + g 1 (k + 1)) (i + 1)) := by simp only [cutNo, e24]
    have eb : cutBad f g (i + 1) = cutNo f g i := by simp only [cutBad, hbad, Bool.false_or]
    rw [ek] at f9
    simp (disch := omega) [f4, f5, f7, f8, f9, ek, rd48_0, rd48_1, wrap_i64]
    refine sheaf_cut (by omega) (by omega) hb2 ?_
    rw [e3]
    simp (disch := omega) [f4, f5, f7, f8, f9, hXc]
    refine cond_dec (fun hz => ?_) fun hz => ?_
    · have hbd : cutBad f g 24 = true := cutBad_mono (i := i + 1) (by rw [eb, en]; exact decide_eq_true hz) (by omega)
      have := hk H' (.agg [.snil, .snil]) .refl
      rw [hbd] at this
      simp [f4, rd]
      exact this (.mk .nil .nil)
    · simp (disch := omega) [f4, f5, f7, f8, f9, hXc, wrap_i64]
      rw [← el, ← eh]
      simp (disch := omega) [wrap_i64]
      refine ⟨by omega, by omega, ?_⟩
      rw [eb, en]; exact decide_eq_false hz
  · have : i = 24 := by omega
    subst this
    rw [hbad] at hk
    simp [f4, f5, f7]
    refine hair_trimmed (by omega) fun H2 v x2 o2 => ?_
    have hk := hk H2 v x2 (o2.le (by omega))
    obtain ⟨q1, q2⟩ := o2
    simp [f4, f5, q1.sl.stor, q2.sl.stor, rd]
    simpa using hk

theorem remF_le {f : HF} {L j : Nat} {m : Int} (hm : 0 ≤ m) (hf : ∀ w n, 0 ≤ f w n) : remF f L m j ≤ m := by
  have mono : ∀ a b, abv f a ≤ abv f (a + b) := by
    intro a b
    induction b with
    | zero => simp
    | succ b ih => have := hf 0 (24 - (a + b)); have := hf 1 (24 - (a + b)); rw [← Nat.add_assoc]; simp only [abv]; omega
  have := mono (25 - L - j) (25 - L - (25 - L - j))
  have e : 25 - L - j + (25 - L - (25 - L - j)) = 25 - L := by omega
  rw [e] at this
  simp only [remF]; omega
/-- what is wanted, amid a length -/
def remW (f : HF) (L : Nat) (m : Int) (j i : Nat) : Int := if i = 0 then remF f L m j else if i = 1 then remF f L m j - tkF f L m 0 (L + j) else remF f L m (j + 1)
def lostW (f : HF) (L : Nat) (m : Int) (j i : Nat) : Int := if i = 0 then lostF f L m j else if i = 1 then lostF f L m j + (j : Int) * tkF f L m 0 (L + j) else lostF f L m (j + 1)
theorem tkW {f : HF} {L j i : Nat} {m : Int} (hf : ∀ w n, 0 ≤ f w n) (hi : i < 2) (h : L + j ≤ 24) : tkF f L m i (L + j) = min (remW f L m j i) (f i (L + j)) ∧ remW f L m j (i + 1) = remW f L m j i - tkF f L m i (L + j) ∧ lostW f L m j (i + 1) = lostW f L m j i + (j : Int) * tkF f L m i (L + j) := by
  have hs := rem_step (f := f) (m := m) hf h
  have hj : L + j - L = j := by omega
  rcases (show i = 0 ∨ i = 1 by omega) with rfl | rfl
  · refine ⟨?_, by simp [remW], by simp [lostW]⟩
    simp only [tkF, hj, show ¬ L + j < L by omega, if_false, if_true, remW]
  · have e0 : tkF f L m 0 (L + j) = min (remF f L m j) (f 0 (L + j)) := by simp only [tkF, hj, show ¬ L + j < L by omega, if_false, if_true]
    refine ⟨?_, by simp [remW]; omega, ?_⟩
    · simp only [remW, if_true, show ¬ (1 : Nat) = 0 by omega, if_false, e0]
      simp only [tkF, hj, show ¬ L + j < L by omega, if_false, show ¬ (1 : Nat) = 0 by omega]
    · simp only [lostW, lostF, if_true, show ¬ (1 : Nat) = 0 by omega, show ¬ (1 + 1 : Nat) = 0 by omega, show ¬ (1 + 1 : Nat) = 1 by omega, if_false, Int.mul_add]; omega
theorem midF_set {f : HF} {L j i : Nat} {m x : Int} (hi : i < 2) (hx : x = cutF f L m i (L + j)) : mk50 (fset (midF f L m j i) i (L + j) x) = mk50 (midF f L m j (i + 1)) := by
  subst hx
  refine mk50_congr fun w n hw h1 h2 => ?_
  simp only [fset, midF]
  by_cases hn : n = L + j
  · subst hn
    by_cases h : w = i
    · subst h; simp
    · rw [if_neg (by omega)]
      have : (w < i) ↔ (w < i + 1) := by omega
      simp only [this]
  · rw [if_neg (by omega)]
    have : (n < L + j ∨ n = L + j ∧ w < i) ↔ (n < L + j ∨ n = L + j ∧ w < i + 1) := by omega
    simp only [this]
theorem midF_two {f : HF} {L j : Nat} {m : Int} : mk50 (midF f L m j 2) = mk50 (midF f L m (j + 1) 0) := by
  refine mk50_congr fun w n hw h1 h2 => ?_
  simp only [midF]
  have : (n < L + j ∨ n = L + j ∧ w < 2) ↔ (n < L + (j + 1) ∨ n = L + (j + 1) ∧ w < 0) := by omega
  simp only [this]

theorem ref01_Cut (ha : BunV H r w av) (hb : BunV H r' w' bv) (hlim : lim ≤ H.length)
    (hK : ∀ H' v, HX H H' → OwnB H.length H' (cutP r w r' w').1 (cutP r w r' w').2.1 v → K (.tup [v, .int .i64 (cutP r w r' w').2.2.1, .int .i64 (cutP r w r' w').2.2.2]) H') : VCall tbl lim 58 [av, bv] H K := by
  refine VCall_fn tbl_at58 rfl ?_
  simp [vf58, ha.stor.1, hb.stor.1, ha.load, hb.load]
  refine ref01_both ha hb ?_
  simp
  refine cond_ndec (fun he => ?_) fun he => ?_
  · have := hK H (.agg [.snil, .snil]) .refl
    simp only [cutP, he, if_false] at this
    simp [rd]
    exact this (.mk .nil .nil)
  have hk := hK
  simp only [cutP, he, if_true] at hk
  clear hK
  obtain ⟨e1, e2⟩ := er2_zero he
  simp [ha.stor.1, hb.stor.1, ha.load, hb.load]
  refine ref01_open2 ha e1 ?_
  simp [hb.stor.1, hb.load]
  refine ref01_open2 hb e2 ?_
  have of9 := op_mil (r := r) (w := w)
  have og9 := op_mil (r := r') (w := w')
  generalize op r w = f at *
  generalize op r' w' = g at *
  simp
  refine wLoop_up 24 (fun i fr L H' => (fr 4 = .lp 2 0 ∧ fr 8 = .lp 3 0 ∧ fr 9 = .lp 4 0 ∧ fr 10 = .int .i64 (cutLo f g i) ∧ fr 11 = .int .i64 (24 - (i : Int))) ∧ L = [cellsV av, cellsV bv, [.snil, .snil], ints (mk50 (cutH f g i)), ints (mk50 g)] ∧ H' = H ∧ cutBad f g i = false) ⟨by simp [cutLo], by simp [cutH], rfl, rfl⟩ ?_
  rintro i hi fr L H' ⟨⟨f4, f8, f9, f10, f11⟩, rfl, rfl, hbad⟩
  simp [f4, f8, f9, f10, f11]
  refine cond_dec (fun ht => ?_) fun hfl => ?_
  · obtain ⟨k, hk2⟩ : ∃ k, k = 24 - i := ⟨_, rfl⟩
    have ek : (24 : Int) - i = k := by omega
    have hb2 := cutH_bd (g := g) of9 i
    have g0 := og9 0 k
    have g1 := og9 1 k
    have e24 : 24 - i = k := by omega
    have lb := cutLo_bd (g := g) of9 i (by omega)
    have lb2 := cutLo_bd (g := g) of9 (i + 1) (by omega)
    obtain ⟨M, hM⟩ : ∃ M, M = g 0 k + g 1 k := ⟨_, rfl⟩
    have el : cutLo f g (i + 1) = cutLo f g i + lostF (cutH f g i) k M (i + 1) := by simp only [cutLo, e24, hM]
    have eh : cutH f g (i + 1) = cutF (cutH f g i) k M := by simp only [cutH, e24, hM]
    have en : cutNo f g i = decide (0 < remF (cutH f g i) k M (i + 1)) := by simp only [cutNo, e24, hM]
    have eb : cutBad f g (i + 1) = cutNo f g i := by simp only [cutBad, hbad, Bool.false_or]
    rw [ek] at f11
    have hm0 : (cutH f g i) = (cutH f g i) := rfl
    generalize hF : cutH f g i = F at *
    generalize hC : cutLo f g i = C at *
    simp (disch := omega) [f4, f8, f9, f10, f11, ek, rd50_0, rd50_1, wrap_i64, ← hM]
    refine wLoop_up (25 - k) (fun j fr L H2 => (fr 4 = .lp 2 0 ∧ fr 8 = .lp 3 0 ∧ fr 9 = .lp 4 0 ∧ fr 10 = .int .i64 (C + lostF F k M j) ∧ fr 11 = .int .i64 (k : Int) ∧ fr 12 = .int .i64 (remF F k M j) ∧ fr 13 = .int .i64 ((k + j : Nat) : Int)) ∧ L = [cellsV av, cellsV bv, [.snil, .snil], ints (mk50 (midF F k M j 0)), ints (mk50 g)] ∧ H2 = H') ⟨by simp [f4, f8, f9, f10, f11, lostF, rem_zero (show 0 ≤ M by omega)], by simp [midF_0.2], rfl⟩ ?_
    clear f4 f8 f9 f10 f11
    rintro j hj fr L H2 ⟨⟨f4, f8, f9, f10, f11, f12, f13⟩, rfl, rfl⟩
    obtain ⟨n, hn⟩ : ∃ n, n = k + j := ⟨_, rfl⟩
    rw [← hn] at f13
    simp [f4, f8, f9, f10, f11, f12, f13]
    refine cond_dec (fun ht2 => ?_) fun hf2 => ?_
    · simp (disch := omega) [f4, f8, f9, f10, f11, f12, f13, wrap_i64]
      have ex0 : remF F k M j = remW F k M j 0 := by simp [remW]
      have ex1 : lostF F k M j = lostW F k M j 0 := by simp [lostW]
      rw [ex0] at f12
      rw [ex1] at f10
      refine wLoop_up 2 (fun q fr L H3 => (fr 4 = .lp 2 0 ∧ fr 8 = .lp 3 0 ∧ fr 9 = .lp 4 0 ∧ fr 10 = .int .i64 (C + lostW F k M j q) ∧ fr 11 = .int .i64 (k : Int) ∧ fr 12 = .int .i64 (remW F k M j q) ∧ fr 13 = .int .i64 (n : Int) ∧ fr 14 = .int .i64 (q : Int)) ∧ L = [cellsV av, cellsV bv, [.snil, .snil], ints (mk50 (midF F k M j q)), ints (mk50 g)] ∧ H3 = H2) ⟨by simp [f4, f8, f9, f10, f11, f12, f13], rfl, rfl⟩ ?_
      clear f4 f8 f9 f10 f11 f12 f13
      rintro q hq fr L H3 ⟨⟨f4, f8, f9, f10, f11, f12, f13, f14⟩, rfl, rfl⟩
      simp [f4, f8, f9, f10, f11, f12, f13, f14]
      refine cond_dec (fun ht3 => ?_) fun hf3 => ?_
      · have hF0 : ∀ w n, 0 ≤ F w n := fun w n => (hb2 w n).1
        obtain ⟨t1, t2, t3⟩ := tkW (m := M) hF0 (show q < 2 by omega) (show k + j ≤ 24 by omega)
        have bq := hb2 q n
        have tb := tk_bd (L := k) (m := M) hF0 q n
        rw [← hn] at t1 t2 t3
        have mq : midF F k M j q q n = F q n := by simp only [midF]; rw [if_neg (by omega)]
        have enk : (n : Int) - k = j := by omega
        have lbj := lost_bd (L := k) (m := M) hb2 j (by omega)
        have lbj2 := lost_bd (L := k) (m := M) hb2 (j + 1) (by omega)
        have rbj := remF_le (f := F) (L := k) (j := j) (m := M) (by omega) hF0
        have rbn := rem_nn (f := F) (L := k) (j := j) (m := M)
        have rb2 := remF_le (f := F) (L := k) (j := j + 1) (m := M) (by omega) hF0
        have rn2 := rem_nn (f := F) (L := k) (j := j + 1) (m := M)
        have pj := mul_bd (a := (j : Int)) (b := tkF F k M 0 (k + j)) (A := 24) (B := 1000000) (by omega) (by have := tk_bd (L := k) (m := M) hF0 0 (k + j); have := hb2 0 (k + j); omega)
        have pq := mul_bd (a := (j : Int)) (b := tkF F k M q n) (A := 24) (B := 1000000) (by omega) (by omega)
        have rw0 : 0 ≤ remW F k M j q ∧ remW F k M j q ≤ 2000000 := by
          have tb0 := tk_bd (L := k) (m := M) hF0 0 (k + j)
          have t0 := (tkW (m := M) hF0 (show 0 < 2 by omega) (show k + j ≤ 24 by omega)).1
          simp only [remW] at t0 ⊢; simp only [if_true] at t0
          split
          · omega
          · split <;> omega
        have lw0 : 0 ≤ lostW F k M j q ∧ lostW F k M j q ≤ 2000000000 := by
          simp only [lostW]
          split
          · omega
          · split <;> omega
        have hcut : F q n - tkF F k M q n = cutF F k M q (k + j) := by simp only [cutF, hn]
        have hset := midF_set (f := F) (L := k) (j := j) (i := q) (m := M) (x := F q n - tkF F k M q n) (by omega) hcut
        rw [← hn] at hset
        have cb := cutLo_bd (g := g) of9 i (by omega)
        rw [hC] at cb
        generalize hT : tkF F k M q n = T at *
        generalize hR : remW F k M j q = R at *
        generalize hW : lostW F k M j q = W at *
        generalize remW F k M j (q + 1) = R2 at *
        generalize lostW F k M j (q + 1) = W2 at *
        simp (disch := omega) [f4, f8, f9, f10, f11, f12, f13, f14, rd50_at, mq]
        refine cond_dec (fun hlt => ?_) fun hlt => ?_
        · have eT : T = R := by omega
          rw [eT] at hset t2 t3 pq
          rw [Int.mul_comm] at pq t3
          simp (disch := omega) [f4, f8, f9, f10, f11, f12, f13, f14, rd50_at, sp50_at, mq, leT, wrap_i64, enk]
          refine ⟨by omega, ⟨by omega, by omega⟩, ?_⟩
          exact congrArg ints hset
        · have eT : T = F q n := by omega
          rw [eT] at hset t2 t3 pq
          rw [Int.mul_comm] at pq t3
          simp (disch := omega) [f4, f8, f9, f10, f11, f12, f13, f14, rd50_at, sp50_at, mq, leT, wrap_i64, enk]
          refine ⟨by omega, ⟨by omega, by omega⟩, ?_⟩
          simpa using congrArg ints hset
      · have : q = 2 := by omega
        subst this
        have ey0 : remW F k M j 2 = remF F k M (j + 1) := by simp [remW]
        have ey1 : lostW F k M j 2 = lostF F k M (j + 1) := by simp [lostW]
        rw [ey0] at f12
        rw [ey1] at f10
        simp (disch := omega) [f4, f8, f9, f10, f11, f12, f13, f14, wrap_i64]
        refine ⟨by omega, by omega, ?_⟩
        exact congrArg ints midF_two
    · have hj2 : j = i + 1 := by omega
      subst hj2
      have e := (midF_end (f := F) (L := k) (j := i + 1) (m := M) (by omega)).2
      rw [e]
      simp [f4, f8, f9, f10, f11, f12, f13]
      refine cond_dec (fun hz => ?_) fun hz => ?_
      · have hbd : cutBad f g 24 = true := cutBad_mono (i := i + 1) (by rw [eb, en]; exact decide_eq_true hz) (by omega)
        have := hk H2 (.agg [.snil, .snil]) .refl
        rw [hbd] at this
        simp [f4, rd]
        exact this (.mk .nil .nil)
      · simp (disch := omega) [f4, f8, f9, f10, f11, wrap_i64]
        rw [el, eh]
        refine ⟨by omega, by omega, rfl, ?_⟩
        rw [eb, en]; exact decide_eq_false hz
  · have : i = 24 := by omega
    subst this
    rw [hbad] at hk
    simp [f4, f8, f10]
    refine ref01_tie (by omega) fun H2 v x2 o2 => ?_
    have hk := hk H2 v x2 o2
    obtain ⟨q1, q2⟩ := o2
    simp [f4, f10, q1.sl.stor, q2.sl.stor, rd]
    simpa using hk
end
end Go.Proofs.Ytgmbjfdhbfhmgaa.Vm
