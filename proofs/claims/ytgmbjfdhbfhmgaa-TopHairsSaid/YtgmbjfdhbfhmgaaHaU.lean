/- Laws of hair over the machine: steps of preparing hair (TopHairs). -/
import Derived.Test.YtgmbjfdhbfhmgaaHaT
namespace Go.Proofs.Ytgmbjfdhbfhmgaa.Vm
open Go
set_option maxRecDepth 100000
set_option linter.unusedSimpArgs false
set_option linter.unusedVariables false
attribute [-simp] List.getD_eq_getElem?_getD

/-- a step that is not refused: nothing comes from nothing -/
structure PrOk (r w ro wo ra wa : List Int) (more : Int) : Prop where
  eo : errOf ro wo = 0
  ea : errOf ra wa = 0
  cnt : cntF (op ro wo) + cntF (op ra wa) = cntF (op r w) + more
  inc : inF (op ro wo) + inF (op ra wa) = inF (op r w)
  pos : 0 ≤ more ∧ more ≤ 2000000
theorem cnt_op_side {h : HF} (hh : ∀ w n, w < 2 → 1 ≤ n → n ≤ 24 → 0 ≤ h w n ∧ h w n ≤ 1000000) : cntF (op (sideF h 0) (sideF h 1)) = cntF h ∧ inF (op (sideF h 0) (sideF h 1)) = inF h := by
  have oo : ∀ x m, x < 2 → 1 ≤ m → m ≤ 24 → op (sideF h 0) (sideF h 1) x m = h x m := fun x m h1 h2 h3 => op_side hh h1 h2 h3
  exact ⟨abv_congr oo (Nat.le_refl _), inF_congr oo⟩
theorem inF_addF {f g : HF} : inF (addF f g) = inF f + inF g := by rw [inF_S, inF_S, inF_S]; exact inS_add 24
theorem err_nil : errOf [] [] = 0 := by decide
theorem op_nil (w n : Nat) : op [] [] w n = 0 := by simp [op, err_nil]
theorem sum_nil : cntF (op [] []) = 0 ∧ inF (op [] []) = 0 := by
  have e : op [] [] = fun _ _ => 0 := by funext w n; exact op_nil w n
  rw [e]
  have h1 : ∀ k, abv (fun _ _ => 0) k = 0 := by
    intro k; induction k with
    | zero => rfl
    | succ k ih => simp only [abv, ih]; omega
  have h2 : ∀ k, inS (fun _ _ => 0) k = 0 := by
    intro k; induction k with
    | zero => rfl
    | succ k ih => simp only [inS, ih]; omega
  exact ⟨h1 24, by rw [inF_S]; exact h2 24⟩
theorem pr_parts {r w : List Int} {a b : HF} (ha : ∀ w n, w < 2 → 1 ≤ n → n ≤ 24 → 0 ≤ a w n) (hb : ∀ w n, w < 2 → 1 ≤ n → n ≤ 24 → 0 ≤ b w n) (h : ∀ x n, x < 2 → 1 ≤ n → n ≤ 24 → a x n + b x n = op r w x n) :
    PrOk r w (sideF a 0) (sideF a 1) (sideF b 0) (sideF b 1) 0 := by
  have ba : ∀ w n, w < 2 → 1 ≤ n → n ≤ 24 → 0 ≤ a w n ∧ a w n ≤ 1000000 := fun x n h1 h2 h3 => by
    have := h x n h1 h2 h3; have := ha x n h1 h2 h3; have := hb x n h1 h2 h3; have := op_bd (r := r) (w := w) x n; omega
  have bb : ∀ w n, w < 2 → 1 ≤ n → n ≤ 24 → 0 ≤ b w n ∧ b w n ≤ 1000000 := fun x n h1 h2 h3 => by
    have := h x n h1 h2 h3; have := ha x n h1 h2 h3; have := hb x n h1 h2 h3; have := op_bd (r := r) (w := w) x n; omega
  obtain ⟨c1, c2⟩ := cnt_op_side ba
  obtain ⟨c3, c4⟩ := cnt_op_side bb
  have e1 : cntF (addF a b) = cntF (op r w) := abv_congr h (Nat.le_refl _)
  have e2 : inF (addF a b) = inF (op r w) := inF_congr h
  refine ⟨err_side ba, err_side bb, ?_, ?_, by omega⟩
  · rw [c1, c3, ← e1]; have : cntF (addF a b) = cntF a + cntF b := abv_add 24; omega
  · rw [c2, c4, ← e2, inF_addF]
theorem pr_draw {r w : List Int} {n : Int} (h : (drawP r w n).2.2.2.2 = 0) : PrOk r w (drawP r w n).2.2.1 (drawP r w n).2.2.2.1 (drawP r w n).1 (drawP r w n).2.1 0 := by
  rcases drawP_cases r w n with ⟨e, he, hE⟩ | ⟨_, n0, n1, hE⟩
  · rw [hE] at h; exact absurd h he
  · rw [hE]
    have db := fun x m => drw_bd (f := op r w) (n := n) op_bd x m
    refine pr_parts (a := subF (op r w) (drw (op r w) n)) (b := drw (op r w) n) (fun x m _ _ _ => ?_) (fun x m _ _ _ => (db x m).1) fun x m _ _ _ => ?_
    · have := db x m; simp only [subF]; omega
    · simp only [subF]; omega
theorem pr_hack {r w : List Int} {n : Int} (h : (hackP r w n).2.2.2.2 = 0) : PrOk r w (hackP r w n).1 (hackP r w n).2.1 (hackP r w n).2.2.1 (hackP r w n).2.2.2.1 0 := by
  have e : hackP r w n = part2 (keepF (op r w) n) (restF (op r w) n) := by
    unfold hackP at h ⊢
    split
    · rename_i e0
      split
      · rename_i h1; rw [if_pos e0, if_pos h1] at h; simp [errQ] at h
      · rfl
    · rename_i e0; rw [if_neg e0] at h; exact absurd h e0
  rw [e]
  refine pr_parts (a := keepF (op r w) n) (b := restF (op r w) n) (fun x m _ _ _ => ?_) (fun x m _ _ _ => ?_) fun x m _ _ _ => ?_
  · have := op_bd (r := r) (w := w) x m; simp only [keepF]; split <;> omega
  · have := op_bd (r := r) (w := w) x m; simp only [restF]; split <;> omega
  · simp only [keepF, restF]; split <;> omega
theorem turn_sums {f : HF} : cntF (turnF f) = cntF f ∧ inF (turnF f) = inF f := by
  have h1 : ∀ k, abv (turnF f) k = abv f k := by
    intro k; induction k with
    | zero => rfl
    | succ k ih => simp only [abv, ih, turnF]; simp
  have h2 : ∀ k, inS (turnF f) k = inS f k := by
    intro k; induction k with
    | zero => rfl
    | succ k ih => simp only [inS, ih, turnF]; simp
  exact ⟨h1 24, by rw [inF_S, inF_S]; exact h2 24⟩
theorem pr_turn {r w : List Int} (h : (turnP r w).2.2 = 0) : PrOk r w (turnP r w).1 (turnP r w).2.1 [] [] 0 := by
  have e : turnP r w = outP (turnF (op r w)) := by
    unfold turnP at h ⊢
    split
    · rfl
    · rename_i e0; rw [if_neg e0] at h; exact absurd h e0
  rw [e] at h ⊢
  have hb := outP_ok h
  rw [outP_lists hb]
  have hp : ∀ x m, x < 2 → 1 ≤ m → m ≤ 24 → 0 ≤ turnF (op r w) x m ∧ turnF (op r w) x m ≤ 1000000 := fun x m h1 h2 h3 => by
    refine ⟨?_, bigN_le hb x m h1 h2 h3⟩
    have := op_bd (r := r) (w := w) 0 m
    have := op_bd (r := r) (w := w) 1 m
    simp only [turnF]; split <;> omega
  obtain ⟨c1, c2⟩ := cnt_op_side hp
  obtain ⟨t1, t2⟩ := turn_sums (f := op r w)
  obtain ⟨z1, z2⟩ := sum_nil
  exact ⟨err_side hp, err_nil, by rw [c1, t1, z1], by rw [c2, t2, z2]; omega, by omega⟩
theorem pr_snap {r w : List Int} {l a n : Int} (h : (snapP r w l a n).2.2 = 0) : PrOk r w (snapP r w l a n).1 (snapP r w l a n).2.1 [] [] n := by
  have hp : 2 ≤ l ∧ l ≤ 24 ∧ 1 ≤ a ∧ a < l ∧ 0 ≤ n ∧ n ≤ op r w 0 l.toNat + op r w 1 l.toNat ∧ snapP r w l a n = outP (snapF (op r w) l.toNat a.toNat n) := by
    unfold snapP at h ⊢
    split
    · rename_i e0
      rw [if_pos e0] at h
      split
      · rename_i h1; rw [if_pos h1] at h; simp [errP] at h
      · rename_i h1
        rw [if_neg h1] at h
        split
        · rename_i h2; rw [if_pos h2] at h; simp [errP] at h
        · rename_i h2; exact ⟨by omega, by omega, by omega, by omega, by omega, by omega, rfl⟩
    · rename_i e0; rw [if_neg e0] at h; exact absurd h e0
  obtain ⟨c1, c2, c3, c4, c5, c6, c7⟩ := hp
  rw [c7] at h ⊢
  have hbig := outP_ok h
  rw [outP_lists hbig]
  have hs := snap_sums (f := op r w) (l := l.toNat) (a := a.toNat) (n := n) op_bd (by omega) c5 c6
  have hle := bigN_le hbig
  have hbd : ∀ x m, x < 2 → 1 ≤ m → m ≤ 24 → 0 ≤ snapF (op r w) l.toNat a.toNat n x m ∧ snapF (op r w) l.toNat a.toNat n x m ≤ 1000000 := by
    intro x m hx hm hm'
    refine ⟨?_, hle x m hx hm hm'⟩
    have b0 := op_bd (r := r) (w := w) 0 l.toNat
    have b1 := op_bd (r := r) (w := w) 1 l.toNat
    have bm := op_bd (r := r) (w := w) x m
    have hT : 0 ≤ snapT (op r w) l.toNat n x ∧ snapT (op r w) l.toNat n x ≤ op r w x l.toNat := by
      rcases (show x = 0 ∨ x = 1 by omega) with rfl | rfl <;> simp [snapT] <;> omega
    simp only [snapF]
    by_cases e : m = l.toNat
    · rw [← e] at hT ⊢
      split <;> split <;> split <;> omega
    · rw [if_neg e]
      split <;> split <;> omega
  obtain ⟨d1, d2⟩ := cnt_op_side hbd
  obtain ⟨z1, z2⟩ := sum_nil
  have b0 := op_bd (r := r) (w := w) 0 l.toNat
  have b1 := op_bd (r := r) (w := w) 1 l.toNat
  exact ⟨err_side hbd, err_nil, by rw [d1, hs.1, z1]; omega, by rw [d2, hs.2, z2]; omega, by omega⟩

section
variable {lim : Nat} {H : Hp} {K : V → Hp → Prop} {r w : List Int} {bv : V}

theorem top_counted (hb : BunV H r w bv) (hlim : lim ≤ H.length) (hK : ∀ H', HX H H' → K (.tup [.int .i64 (cntF (op r w)), .int .i64 (inF (op r w)), .bool (decide (errOf r w = 0))]) H') : VCall tbl lim 63 [bv] H K := by
  have cc0 : aboveS (opened r w) 1 = cntF (op r w) := by rw [opened_mk, aboveS_mk, kA_1]; rfl
  have ci0 : inchesS (opened r w) = inF (op r w) := by rw [opened_mk]; rfl
  refine VCall_fn tbl_at63 rfl ?_
  simp [vf63, hb.stor.1, hb.load]
  refine hair_Count hb hlim fun H1 x1 => ?_
  replace x1 : HX H H1 := x1
  have l1 := x1.len
  simp [hb.stor.1, hb.load]
  refine hair_Inches (hb.mono x1) (by omega) fun H2 x2 => ?_
  replace x2 : HX H1 H2 := x2
  rw [cc0, ci0]
  simp
  exact hK _ (x1.trans x2)

theorem top_prepared {k a b c : Int} (hb : BunV H r w bv) (he : errOf r w = 0) (hlim : lim ≤ H.length) (ha : I64 a) (hbb : I64 b) (hc : I64 c)
    (hK : ∀ H' o s ro wo ra wa more ok, HX H H' → BunV H' ro wo o → BunV H' ra wa s → (ok = true → PrOk r w ro wo ra wa more) → K (.tup [o, s, .int .i64 more, .bool ok]) H') :
    VCall tbl lim 64 [bv, .agg [.int .i64 k, .int .i64 a, .int .i64 b, .int .i64 c]] H K := by
  obtain ⟨hx, hy⟩ := hb
  rename_i rv wv
  have hb : BunV H r w (.agg [rv, wv]) := .mk hx hy
  refine VCall_fn tbl_at64 rfl ?_
  have r0 : rd none [V.int .i64 k, .int .i64 a, .int .i64 b, .int .i64 c] 0 = some (.int .i64 k) := rfl
  have r1 : rd none [V.int .i64 k, .int .i64 a, .int .i64 b, .int .i64 c] 1 = some (.int .i64 a) := rfl
  have r2 : rd none [V.int .i64 k, .int .i64 a, .int .i64 b, .int .i64 c] 2 = some (.int .i64 b) := rfl
  have r3 : rd none [V.int .i64 k, .int .i64 a, .int .i64 b, .int .i64 c] 3 = some (.int .i64 c) := rfl
  have r4 : rd (some 4) [V.int .i64 k, .int .i64 a, .int .i64 b, .int .i64 c] 0 = some (.agg [V.int .i64 k, .int .i64 a, .int .i64 b, .int .i64 c]) := rfl
  simp [vf64, hx.stor, hy.stor, hx.one, hy.one, r0]
  refine cond_dec (fun h0 => ?_) fun h0 => ?_
  · simp [hx.stor, hy.stor, r1]
    refine hair_Draw hb hlim ha fun H1 _ _ x1 o1 o2 => ?_
    obtain ⟨a1, a2⟩ := o1
    obtain ⟨b1, b2⟩ := o2
    simp [a1.sl.stor, a2.sl.stor, a1.sl.one, a2.sl.one, b1.sl.stor, b2.sl.stor, b1.sl.one, b2.sl.one, r0, r1, r2, r3]
    exact hK _ _ _ _ _ _ _ _ _ x1 (.mk b1.sl b2.sl) (.mk a1.sl a2.sl) fun h => pr_draw (by simpa using h)
  simp
  refine cond_dec (fun h1 => ?_) fun h1 => ?_
  · simp [hx.stor, hy.stor, r1]
    refine hair_Hackle hb hlim ha fun H1 _ _ x1 o1 o2 => ?_
    obtain ⟨a1, a2⟩ := o1
    obtain ⟨b1, b2⟩ := o2
    simp [a1.sl.stor, a2.sl.stor, a1.sl.one, a2.sl.one, b1.sl.stor, b2.sl.stor, b1.sl.one, b2.sl.one, r0, r1, r2, r3]
    exact hK _ _ _ _ _ _ _ _ _ x1 (.mk a1.sl a2.sl) (.mk b1.sl b2.sl) fun h => pr_hack (by simpa using h)
  simp
  refine cond_dec (fun h2 => ?_) fun h2 => ?_
  · simp [hx.stor, hy.stor]
    refine hair_Turn hb hlim fun H1 _ x1 o1 => ?_
    obtain ⟨a1, a2⟩ := o1
    simp [a1.sl.stor, a2.sl.stor, a1.sl.one, a2.sl.one]
    exact hK _ _ _ _ _ _ _ _ _ x1 (.mk a1.sl a2.sl) (.mk .nil .nil) fun h => pr_turn (by simpa using h)
  simp
  refine cond_dec (fun h3 => ?_) fun h3 => ?_
  · simp [hx.stor, hy.stor, r1, r2, r3]
    refine hair_Snap hb hlim ha hbb hc fun H1 _ x1 o1 => ?_
    obtain ⟨a1, a2⟩ := o1
    by_cases hz : (snapP r w a b c).2.2 = 0
    · simp [hz, a1.sl.stor, a2.sl.stor, a1.sl.one, a2.sl.one, r3]
      exact hK _ _ _ _ _ _ _ _ _ x1 (.mk a1.sl a2.sl) (.mk .nil .nil) fun h => pr_snap hz
    · simp [hz, a1.sl.stor, a2.sl.stor, a1.sl.one, a2.sl.one, r3]
      exact hK _ _ _ _ _ _ _ _ _ x1 (.mk a1.sl a2.sl) (.mk .nil .nil) fun h => by cases h
  · simp [hx.stor, hy.stor, hx.one, hy.one]
    refine hK _ _ _ _ _ _ _ _ _ .refl hb (.mk .nil .nil) fun _ => ?_
    obtain ⟨z1, z2⟩ := sum_nil
    exact ⟨he, err_nil, by rw [z1], by rw [z2]; omega, by omega⟩
end
end Go.Proofs.Ytgmbjfdhbfhmgaa.Vm
