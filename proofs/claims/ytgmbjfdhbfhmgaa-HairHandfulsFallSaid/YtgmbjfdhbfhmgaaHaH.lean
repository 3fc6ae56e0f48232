/- Package hair over the machine: breaking, shares, weight, comparison, lack. -/
import Derived.Test.YtgmbjfdhbfhmgaaHaG
namespace Go.Proofs.Ytgmbjfdhbfhmgaa.Vm
open Go
set_option maxRecDepth 100000
set_option linter.unusedSimpArgs false
set_option linter.unusedVariables false
attribute [-simp] List.getD_eq_getElem?_getD

theorem rd2_all {a b : V} : rd (some 2) [a, b] 0 = some (.agg [a, b]) := rfl

section
variable {lim : Nat} {H : Hp} {av bv : V} {r w r' w' : List Int} {K : V → Hp → Prop}

theorem hair_Snap (hb : BunV H r w bv) (hlim : lim ≤ H.length) {l a n : Int} (hl : I64 l) (ha : I64 a) (hn : I64 n)
    (hK : ∀ H' v, HX H H' → OwnB H.length H' (snapP r w l a n).1 (snapP r w l a n).2.1 v → K (.tup [v, .int .i64 (snapP r w l a n).2.2]) H') : VCall tbl lim 44 [bv, .int .i64 l, .int .i64 a, .int .i64 n] H K := by
  refine VCall_fn tbl_at44 rfl ?_
  simp [vf44, hb.stor.1, hb.load]
  refine hair_open2 hb hlim (fun he H1 x1 => ?_) fun he H1 x1 => ?_
  · have := hK H1 (.agg [.snil, .snil]) x1 (by simp [snapP, he, errP]; exact .zero)
    simp [he]
    simpa [snapP, he, errP] using this
  simp
  have hw : 2 ≤ l ∧ l ≤ 24 → IntKind.i64.wrap (l - 1) = l - 1 := fun h => wrap_i64 (by omega) (by omega)
  refine cond_bool (fun h1 => ?_) fun h1 => ?_
  · have h1 : l < 2 ∨ 24 < l ∨ a < 1 ∨ l ≤ a ∨ n < 0 := by
      by_cases hh : 2 ≤ l ∧ l ≤ 24
      · rw [hw hh] at h1; simp at h1; omega
      · omega
    have := hK H1 (.agg [.snil, .snil]) x1 (by simp only [snapP, he, h1, if_true]; exact .zero)
    simp
    simpa [snapP, he, h1, errP] using this
  have h1 : ¬ (l < 2 ∨ 24 < l ∨ a < 1 ∨ l ≤ a ∨ n < 0) := by
    by_cases hh : 2 ≤ l ∧ l ≤ 24
    · rw [hw hh] at h1; simp at h1; omega
    · simp at h1; omega
  obtain ⟨Lb, rfl⟩ : ∃ x : Nat, l = x := ⟨l.toNat, by omega⟩
  obtain ⟨Ab, rfl⟩ : ∃ x : Nat, a = x := ⟨a.toNat, by omega⟩
  obtain ⟨m, hm⟩ : ∃ x, Lb = x + 1 := ⟨Lb - 1, by omega⟩
  obtain ⟨q, hq⟩ : ∃ x, Ab = x + 1 := ⟨Ab - 1, by omega⟩
  obtain ⟨s, hs⟩ : ∃ x, Lb - Ab = x + 1 := ⟨Lb - Ab - 1, by omega⟩
  have e1 : (Lb : Int) - 1 = (m : Nat) := by omega
  have e2 : (Ab : Int) - 1 = (q : Nat) := by omega
  have e3 : (Lb : Int) - Ab = (s : Nat) + 1 := by omega
  have hop : ∀ w' k, 0 ≤ op r w w' k ∧ op r w w' k ≤ 1000000 := op_bd
  generalize hF : op r w = f at *
  have b0 := hop 0 (m + 1)
  have b1 := hop 1 (m + 1)
  have hn2 := hn.2
  simp (disch := omega) [wrap_i64, e1, rd48_0, rd48_1]
  refine cond_dec (fun h2 => ?_) fun h2 => ?_
  · have h2' : f 0 (Lb : Int).toNat + f 1 (Lb : Int).toNat < n := by simpa [hm] using h2
    have := hK H1 (.agg [.snil, .snil]) x1 (by simp only [snapP, he, h1, hF, h2', if_true, if_false]; exact .zero)
    simp
    simpa only [snapP, he, h1, hF, h2', if_true, if_false, errP] using this
  have h2' : ¬ f 0 (Lb : Int).toNat + f 1 (Lb : Int).toNat < n := by simpa [hm] using h2
  have hfin : ∀ g : HF, (∀ w' k, w' < 2 → 1 ≤ k → k ≤ 24 → g w' k = snapF f (m + 1) (q + 1) n w' k) → mk48 g = mk48 (snapF f (Lb : Int).toNat (Ab : Int).toNat n) := by
    intro g hg
    refine mk48_congr fun w' k h1 h2 h3 => ?_
    rw [hg w' k h1 h2 h3, Int.toNat_natCast, Int.toNat_natCast, hm, hq]
  have hop9 : ∀ w' k, 0 ≤ f w' k ∧ f w' k ≤ 1000000000 := fun a b => by have := hop a b; omega
  simp (disch := omega) [wrap_i64, e1]
  refine sheaf_pick (by omega) (by omega) hop9 ?_
  have bx : 0 ≤ min n (f 0 (m + 1)) ∧ min n (f 0 (m + 1)) ≤ 1000000 := by omega
  have by' : 0 ≤ min (n - min n (f 0 (m + 1))) (f 1 (m + 1)) ∧ min (n - min n (f 0 (m + 1))) (f 1 (m + 1)) ≤ 1000000 := by omega
  have hx : snapT f (m + 1) n 0 = min n (f 0 (m + 1)) := by simp [snapT]
  have hy : snapT f (m + 1) n 1 = min (n - min n (f 0 (m + 1))) (f 1 (m + 1)) := by simp [snapT]
  generalize min (n - min n (f 0 (m + 1))) (f 1 (m + 1)) = y at *
  generalize min n (f 0 (m + 1)) = x at *
  have c0 := hop 0 (q + 1)
  have c1 := hop 1 (q + 1)
  have d0 := hop 0 (s + 1)
  have d1 := hop 1 (s + 1)
  have hqm : ¬ q = m := by omega
  have hsm : ¬ s = m := by omega
  simp (disch := omega) [wrap_i64, e1, e3, rd48_0, rd48_1, sp48_0, sp48_1, leT, fset]
  refine wLoop_round ?_
  simp (disch := omega) [wrap_i64, e1, e2, e3, rd48_0, rd48_1, sp48_0, sp48_1, leT, fset, hqm, hsm]
  refine wLoop_round ?_
  simp (disch := omega) [wrap_i64, e1, e2, e3, rd48_0, rd48_1, sp48_0, sp48_1, leT, fset, hqm, hsm]
  refine wLoop_round ?_
  simp
  refine hair_bundle' (f := snapF f (Lb : Int).toNat (Ab : Int).toNat n) (hfin _ fun w' k hw' k1 k2 => ?_) (Nat.le_trans hlim x1.len) fun H2 v x2 o2 => ?_
  · have hLA : m + 1 - (q + 1) = s + 1 := by omega
    rcases (show w' = 0 ∨ w' = 1 by omega) with rfl | rfl
    · simp only [fset, snapF, hx, hy, hLA]
      grind
    · simp only [fset, snapF, hx, hy, hLA]
      grind
  obtain ⟨o1, o2⟩ := o2
  simp [o1.sl.stor, o2.sl.stor, o1.sl.one, o2.sl.one]
  have e : snapP r w (Lb : Int) (Ab : Int) n = outP (snapF f (Lb : Int).toNat (Ab : Int).toNat n) := by
    simp only [snapP, he, h1, hF, h2', if_true, if_false]
  rw [e] at hK
  exact hK H2 _ (x1.trans x2) (OwnB.mk (o1.le x1.len) (o2.le x1.len))

theorem ref01_Snap (hb : BunV H r w bv) (hlim : lim ≤ H.length) {l a n : Int} (hl : I64 l) (ha : I64 a) (hn : I64 n)
    (hK : ∀ H' v, HX H H' → OwnB H.length H' (snapP r w l a n).1 (snapP r w l a n).2.1 v → K (.tup [v, .int .i64 (snapP r w l a n).2.2]) H') : VCall tbl lim 45 [bv, .int .i64 l, .int .i64 a, .int .i64 n] H K := by
  refine VCall_fn tbl_at45 rfl ?_
  simp [vf45, hb.stor.1, hb.load]
  refine ref01_Validate hb ?_
  simp
  refine cond_ndec (fun he => ?_) fun he => ?_
  · have := hK H (.agg [.snil, .snil]) .refl (by simp [snapP, he, errP]; exact .zero)
    simp
    simpa [snapP, he, errP] using this
  simp
  refine cond_bool (fun h1 => ?_) fun h1 => ?_
  · have h1 : l < 2 ∨ 24 < l ∨ a < 1 ∨ l ≤ a ∨ n < 0 := by simp at h1; omega
    have := hK H (.agg [.snil, .snil]) .refl (by simp only [snapP, he, h1, if_true]; exact .zero)
    simp
    simpa [snapP, he, h1, errP] using this
  have h1 : ¬ (l < 2 ∨ 24 < l ∨ a < 1 ∨ l ≤ a ∨ n < 0) := by simp at h1; omega
  obtain ⟨Lb, rfl⟩ : ∃ x : Nat, l = x := ⟨l.toNat, by omega⟩
  obtain ⟨Ab, rfl⟩ : ∃ x : Nat, a = x := ⟨a.toNat, by omega⟩
  obtain ⟨Sb, hS⟩ : ∃ x, Lb = Ab + x := ⟨Lb - Ab, by omega⟩
  have e3 : (Lb : Int) - Ab = (Sb : Nat) := by omega
  have hop : ∀ w' k, 0 ≤ op r w w' k ∧ op r w w' k ≤ 1000000 := op_bd
  simp [hb.stor.1, hb.load]
  refine ref01_open2 hb he ?_
  generalize hF : op r w = f at *
  have b0 := hop 0 Lb
  have b1 := hop 1 Lb
  have hn2 := hn.2
  simp (disch := omega) [wrap_i64, rd50_0, rd50_1]
  refine cond_dec (fun h2 => ?_) fun h2 => ?_
  · have h2' : f 0 (Lb : Int).toNat + f 1 (Lb : Int).toNat < n := by simpa using h2
    have := hK H (.agg [.snil, .snil]) .refl (by simp only [snapP, he, h1, hF, h2', if_true, if_false]; exact .zero)
    simp
    simpa only [snapP, he, h1, hF, h2', if_true, if_false, errP] using this
  have h2' : ¬ f 0 (Lb : Int).toNat + f 1 (Lb : Int).toNat < n := by simpa using h2
  simp
  have hLA : ¬ Ab = Lb := by omega
  have hLS : ¬ Sb = Lb := by omega
  have hLA' : ¬ Lb = Ab := by omega
  have hLS' : ¬ Lb = Sb := by omega
  refine wLoop_up 2 (fun i fr L H' => (fr 1 = .int .i64 Lb ∧ fr 2 = .int .i64 Ab ∧ fr 3 = .int .i64 (if i = 0 then n else if i = 1 then n - snapT f Lb n 0 else n - snapT f Lb n 0 - snapT f Lb n 1) ∧ fr 8 = .lp 1 0 ∧ fr 9 = .int .i64 0 ∧ fr 11 = .lp 2 0 ∧ fr 12 = .int .i64 i) ∧
    L = [cellsV bv, [.snil, .snil], ints (mk50 fun a m => if a < i then snapF f Lb Ab n a m else f a m)] ∧ H' = H) ⟨by simp, by simp, rfl⟩ ?_
  rintro i hi fr L H' ⟨⟨f1, f2, f3, f8, f9, f11, f12⟩, rfl, rfl⟩
  simp [f1, f2, f3, f8, f9, f11, f12]
  refine cond_dec (fun ht => ?_) fun hf => ?_
  · have hi2 : i < 2 := by omega
    have hT : snapT f Lb n i = min (if i = 0 then n else if i = 1 then n - snapT f Lb n 0 else n - snapT f Lb n 0 - snapT f Lb n 1) (f i Lb) := by
      rcases (show i = 0 ∨ i = 1 by omega) with rfl | rfl <;> simp [snapT]
    have hR : (if i + 1 = 0 then n else if i + 1 = 1 then n - snapT f Lb n 0 else n - snapT f Lb n 0 - snapT f Lb n 1) = (if i = 0 then n else if i = 1 then n - snapT f Lb n 0 else n - snapT f Lb n 0 - snapT f Lb n 1) - snapT f Lb n i := by
      rcases (show i = 0 ∨ i = 1 by omega) with rfl | rfl <;> simp
    have hN : 0 ≤ (if i = 0 then n else if i = 1 then n - snapT f Lb n 0 else n - snapT f Lb n 0 - snapT f Lb n 1) ∧ (if i = 0 then n else if i = 1 then n - snapT f Lb n 0 else n - snapT f Lb n 0 - snapT f Lb n 1) ≤ n := by
      rcases (show i = 0 ∨ i = 1 by omega) with rfl | rfl <;> simp [snapT] <;> omega
    generalize (if i = 0 then n else if i = 1 then n - snapT f Lb n 0 else n - snapT f Lb n 0 - snapT f Lb n 1) = R at *
    generalize hR' : (if i + 1 = 0 then n else if i + 1 = 1 then n - snapT f Lb n 0 else n - snapT f Lb n 0 - snapT f Lb n 1) = R' at *
    have c0 := hop i Lb
    have c1 := hop i Ab
    have c2 := hop i Sb
    have key : ∀ t : Int, t = snapT f Lb n i → mk50 (fset (fset (fset (fun a m => if a < i then snapF f Lb Ab n a m else f a m) i Lb (f i Lb - t)) i Ab (f i Ab + t)) i Sb ((if Sb = Ab then f i Ab + t else f i Sb) + t)) = mk50 (fun a m => if a < i + 1 then snapF f Lb Ab n a m else f a m) := by
      rintro t rfl
      have hLSb : Lb - Ab = Sb := by omega
      refine mk50_congr fun a m ha h1 h2 => ?_
      simp only [fset, snapF, hLSb]
      by_cases e : a = i
      · subst e; simp; grind
      · have : (a < i + 1) ↔ a < i := by omega
        simp [e, this]
    simp (disch := omega) [f1, f2, f3, f8, f9, f11, f12, rd50_at]
    refine cond_dec (fun hlt => ?_) fun hlt => ?_
    · have ht' : R = snapT f Lb n i := by omega
      have k := key R ht'
      simp (disch := omega) [f1, f2, f3, f8, f9, f11, f12, rd50_at, sp50_at, leT, wrap_i64, e3, fset, hLA, hLS]
      refine ⟨hi2, ?_, congrArg ints k⟩
      rcases (show i = 0 ∨ i = 1 by omega) with rfl | rfl <;> simp at hR' ⊢ <;> omega
    · have ht' : f i Lb = snapT f Lb n i := by omega
      have k := key (f i Lb) ht'
      rw [Int.sub_self] at k
      simp (disch := omega) [f1, f2, f3, f8, f9, f11, f12, rd50_at, sp50_at, leT, wrap_i64, e3, fset, hLA, hLS]
      refine ⟨hi2, ?_, congrArg ints k⟩
      rcases (show i = 0 ∨ i = 1 by omega) with rfl | rfl <;> simp at hR' ⊢ <;> omega
  · have : i = 2 := by omega
    subst this
    have e : mk50 (fun a m => if a < 2 then snapF f Lb Ab n a m else f a m) = mk50 (snapF f Lb Ab n) := mk50_congr fun a m h _ _ => by rw [if_pos h]
    rw [e]
    simp [f8, f9, f11]
    refine ref01_fits hlim fun H2 v x2 o2 => ?_
    obtain ⟨o1, o2⟩ := o2
    simp [f8, o1.sl.stor, o2.sl.stor, o1.sl.one, o2.sl.one]
    have e : snapP r w (Lb : Int) (Ab : Int) n = outP (snapF f Lb Ab n) := by
      have h3 : ¬ f 0 Lb + f 1 Lb < n := h2'
      simp only [snapP, he, h1, hF, h3, if_true, if_false, Int.toNat_natCast]
    rw [e] at hK
    exact hK H2 _ x2 (OwnB.mk o1 o2)

/-! shares, means -/
abbrev Rat3 := Int × Int × Int
def gcdI (a b : Int) : Nat := Nat.gcd a.toNat b.toNat
def ratP (f : HF) (x : Int) : Rat3 := if cntF f = 0 then (0, 0, 5) else ((x.toNat / gcdI x (cntF f) : Nat), ((cntF f).toNat / gcdI x (cntF f) : Nat), 0)
def withE (r w : List Int) (p : Rat3) : Rat3 := if errOf r w = 0 then p else (0, 0, errOf r w)
def shareP (r w : List Int) (l : Int) : Rat3 := withE r w (ratP (op r w) (abv (op r w) (kA l)))
def inF (f : HF) : Int := inchesS (mk48 f)
def meanP (r w : List Int) : Rat3 := withE r w (ratP (op r w) (inF (op r w)))
def wrF (f : HF) : Nat → Int
  | 0 => 0
  | k + 1 => wrF f k + f 1 (k + 1)
def matsP (r w : List Int) : Rat3 := withE r w (ratP (op r w) (wrF (op r w) 24))

theorem wrF_bd {f : HF} (hf : ∀ w n, 0 ≤ f w n ∧ f w n ≤ 1000000) : ∀ k : Nat, 0 ≤ wrF f k ∧ wrF f k ≤ k * 1000000
  | 0 => by simp [wrF]
  | k + 1 => by
    have := wrF_bd hf k
    have b := hf 1 (k + 1)
    simp only [wrF]; push_cast; omega
theorem abv_bd6 {f : HF} (hf : ∀ w n, 0 ≤ f w n ∧ f w n ≤ 1000000) : ∀ m : Nat, 0 ≤ abv f m ∧ abv f m ≤ m * 2000000
  | 0 => by simp [abv]
  | m + 1 => by
    have := abv_bd6 hf m
    have b0 := hf 0 (24 - m)
    have b1 := hf 1 (24 - m)
    simp only [abv]; push_cast; omega
theorem inRest_bd {f : HF} (hf : ∀ w n, 0 ≤ f w n ∧ f w n ≤ 1000000) : ∀ k : Nat, k ≤ 24 → 0 ≤ inRest (mk48 f) k ∧ inRest (mk48 f) k ≤ k * 48000000
  | 0, _ => by simp [inRest]
  | k + 1, h => by
    have := inRest_bd hf k (by omega)
    have e1 : 47 - k = 24 + (23 - k) := by omega
    have b0 := hf 0 (23 - k + 1)
    have b1 := hf 1 (23 - k + 1)
    simp only [inRest]
    rw [mk48_0 (by omega), e1, mk48_1 (by omega)]
    have hk : (0 : Int) ≤ 24 - (k : Int) ∧ 24 - (k : Int) ≤ 24 := by omega
    have p1 : 0 ≤ (24 - (k : Int)) * (f 0 (23 - k + 1) + f 1 (23 - k + 1)) := Int.mul_nonneg hk.1 (by omega)
    have p2 : (24 - (k : Int)) * (f 0 (23 - k + 1) + f 1 (23 - k + 1)) ≤ 24 * 2000000 := Int.mul_le_mul hk.2 (by omega) (by omega) (by omega)
    push_cast; omega
theorem inF_bd {f : HF} (hf : ∀ w n, 0 ≤ f w n ∧ f w n ≤ 1000000) : 0 ≤ inF f ∧ inF f ≤ 1152000000 := by
  have := inRest_bd hf 24 (by omega)
  simp only [inF, inchesS]; omega
theorem sheaf_inches2 {f : HF} (hf : ∀ w n, 0 ≤ f w n ∧ f w n ≤ 1000000) (hK : K (.int .i64 (inF f)) H) : VCall tbl lim 73 [.agg (ints (mk48 f))] H K :=
  sheaf_inches (by simp) (small_mk fun a b => by have := hf a b; omega) hK
theorem ref01_inches2 {f : HF} (hf : ∀ w n, 0 ≤ f w n ∧ f w n ≤ 1000000) (hK : K (.int .i64 (inF f)) H) : VCall tbl lim 74 [.agg (ints (mk50 f))] H K :=
  ref01_inches_in RefOf_mk (small_mk fun a b => by have := hf a b; omega) hK

def filledE (r w : List Int) : Int := if errOf r w = 0 then if cntF (op r w) = 0 then 5 else 0 else errOf r w
theorem hair_openFilled (hb : BunV H r w bv) (hlim : lim ≤ H.length) (hE : filledE r w ≠ 0 → ∀ H' f, HX H H' → K (.tup [.agg (ints (mk48 f)), .int .i64 (filledE r w)]) H')
    (hO : filledE r w = 0 → errOf r w = 0 → cntF (op r w) ≠ 0 → ∀ H', HX H H' → K (.tup [.agg (ints (mk48 (op r w))), .int .i64 0]) H') : VCall tbl lim 85 [bv] H K := by
  refine VCall_fn tbl_at85 rfl ?_
  simp [vf85, hb.stor.1, hb.load]
  refine hair_open2 hb hlim (fun he H1 x1 => ?_) fun he H1 x1 => ?_
  · have e : filledE r w = errOf r w := by simp [filledE, he]
    have := hE (by rw [e]; exact he) H1 (fun _ _ => 0) x1
    rw [← zs48, e] at this
    simp [he]
    exact this
  · simp
    refine sheaf_count2 op_bd' ?_
    simp
    refine cond_dec (fun hc => ?_) fun hc => ?_
    · have e : filledE r w = 5 := by simp [filledE, he, hc]
      have := hE (by rw [e]; omega) H1 (op r w) x1
      rw [e] at this
      simp
      exact this
    · have e : filledE r w = 0 := by simp [filledE, he, hc]
      simp
      exact hO e he hc H1 x1

theorem ref01_part {f : HF} (hf : ∀ w n, 0 ≤ f w n ∧ f w n ≤ 1000000) {x : Int} (hx : 0 ≤ x ∧ x ≤ 4611686018427387904) (hK : K (.tup [.agg [.int .i64 (ratP f x).1, .int .i64 (ratP f x).2.1], .int .i64 (ratP f x).2.2]) H) : VCall tbl lim 87 [.agg (ints (mk50 f)), .int .i64 x] H K := by
  have hf9 : ∀ w n, 0 ≤ f w n ∧ f w n ≤ 1000000000 := fun a b => by have := hf a b; omega
  refine VCall_fn tbl_at87 rfl ?_
  simp [vf87]
  refine ref01_above2 hf9 ?_
  have hc : abv f (kA 0) = cntF f := rfl
  have hb := abv_bd6 hf 24
  rw [hc]
  simp
  refine cond_dec (fun h => ?_) fun h => ?_
  · simp
    simpa [ratP, h] using hK
  · simp
    refine ref01_above2 hf9 ?_
    rw [hc]
    simp
    obtain ⟨a, rfl⟩ : ∃ a : Nat, x = a := ⟨x.toNat, by omega⟩
    have hcn : 0 < cntF f ∧ cntF f ≤ 48000000 := by simp only [cntF] at h ⊢; omega
    obtain ⟨b, hb'⟩ : ∃ b : Nat, cntF f = b := ⟨(cntF f).toNat, by omega⟩
    rw [hb']
    refine ref01_Fraction (by omega) (by omega) (by omega) ?_
    simp
    have hbz : ¬ (b : Int) = 0 := by omega
    have e : ratP f a = (((a / Nat.gcd a b : Nat) : Int), ((b / Nat.gcd a b : Nat) : Int), 0) := by
      simp [ratP, hb', hbz, gcdI]
      omega
    rw [e] at hK
    simpa using hK

theorem hair_ratio2 {f : HF} {x : Int} (hx : 0 ≤ x ∧ x ≤ 4611686018427387904) (hc : 0 < cntF f ∧ cntF f ≤ 4611686018427387904) (hK : K (.agg [.int .i64 (ratP f x).1, .int .i64 (ratP f x).2.1]) H) : VCall tbl lim 86 [.int .i64 x, .int .i64 (cntF f)] H K := by
  obtain ⟨a, rfl⟩ : ∃ a : Nat, x = a := ⟨x.toNat, by omega⟩
  obtain ⟨b, hb'⟩ : ∃ b : Nat, cntF f = b := ⟨(cntF f).toNat, by omega⟩
  have hbz : ¬ (b : Int) = 0 := by omega
  have e : ratP f a = (((a / Nat.gcd a b : Nat) : Int), ((b / Nat.gcd a b : Nat) : Int), 0) := by
    simp [ratP, hb', hbz, gcdI]
    omega
  rw [hb']
  rw [e] at hK
  exact hair_ratio (by omega) (by omega) (by omega) hK
theorem ratP_ok {f : HF} {x : Int} (h : cntF f ≠ 0) : (ratP f x).2.2 = 0 := by simp [ratP, h]
theorem cntF_op2 : 0 ≤ cntF (op r w) ∧ cntF (op r w) ≤ 48000000 := by
  have := abv_bd6 (f := op r w) op_bd 24
  simp only [cntF]; omega

theorem withE_err {p : Rat3} (h : errOf r w ≠ 0) : withE r w p = (0, 0, errOf r w) := by simp [withE, h]
theorem withE_ok {p : Rat3} (h : errOf r w = 0) : withE r w p = p := by simp [withE, h]
theorem filled_err {x : Int} (h : filledE r w ≠ 0) : withE r w (ratP (op r w) x) = (0, 0, filledE r w) := by
  unfold filledE at h ⊢
  by_cases e : errOf r w = 0
  · by_cases c : cntF (op r w) = 0
    · simp [withE, ratP, e, c]
    · simp [e, c] at h
  · simp [withE, e]

theorem hair_Share (hb : BunV H r w bv) (hlim : lim ≤ H.length) {n : Int} (hn : I64 n) (hK : ∀ H', HX H H' → K (.tup [.agg [.int .i64 (shareP r w n).1, .int .i64 (shareP r w n).2.1], .int .i64 (shareP r w n).2.2]) H') : VCall tbl lim 46 [bv, .int .i64 n] H K := by
  refine VCall_fn tbl_at46 rfl ?_
  simp [vf46, hb.stor.1, hb.load]
  refine hair_openFilled hb hlim (fun he H1 f x1 => ?_) fun hfe he hc H1 x1 => ?_
  · have := hK H1 x1
    rw [shareP, filled_err he] at this
    simp [he]
    exact this
  · have := hK H1 x1
    rw [shareP, withE_ok he, ratP_ok hc] at this
    simp
    refine sheaf_above2 op_bd' hn ?_
    simp
    refine sheaf_count2 op_bd' ?_
    simp
    have b1 := abv_bd6 (f := op r w) op_bd (kA n)
    have b2 := kA_le (l := n)
    have b3 := cntF_op2 (r := r) (w := w)
    refine hair_ratio2 (by omega) (by omega) ?_
    simp
    exact this
theorem ref01_Share (hb : BunV H r w bv) (hlim : lim ≤ H.length) {n : Int} (hn : I64 n) (hK : K (.tup [.agg [.int .i64 (shareP r w n).1, .int .i64 (shareP r w n).2.1], .int .i64 (shareP r w n).2.2]) H) : VCall tbl lim 47 [bv, .int .i64 n] H K := by
  refine VCall_fn tbl_at47 rfl ?_
  simp [vf47, hb.stor.1, hb.load]
  refine ref01_Validate hb ?_
  simp
  refine cond_ndec (fun he => ?_) fun he => ?_
  · rw [shareP, withE_err he] at hK
    simp
    exact hK
  · rw [shareP, withE_ok he] at hK
    simp [hb.stor.1, hb.load]
    refine ref01_open2 hb he ?_
    simp [hb.stor.1, hb.load]
    refine ref01_open2 hb he ?_
    simp
    refine ref01_above2 op_bd' ?_
    simp
    have b1 := abv_bd6 (f := op r w) op_bd (kA n)
    have b2 := kA_le (l := n)
    refine ref01_part op_bd (by omega) ?_
    simp
    exact hK
theorem hair_Mean (hb : BunV H r w bv) (hlim : lim ≤ H.length) (hK : ∀ H', HX H H' → K (.tup [.agg [.int .i64 (meanP r w).1, .int .i64 (meanP r w).2.1], .int .i64 (meanP r w).2.2]) H') : VCall tbl lim 48 [bv] H K := by
  refine VCall_fn tbl_at48 rfl ?_
  simp [vf48, hb.stor.1, hb.load]
  refine hair_openFilled hb hlim (fun he H1 f x1 => ?_) fun hfe he hc H1 x1 => ?_
  · have := hK H1 x1
    rw [meanP, filled_err he] at this
    simp [he]
    exact this
  · have := hK H1 x1
    rw [meanP, withE_ok he, ratP_ok hc] at this
    simp
    refine sheaf_inches2 op_bd ?_
    simp
    refine sheaf_count2 op_bd' ?_
    simp
    have b1 := inF_bd (f := op r w) op_bd
    have b3 := cntF_op2 (r := r) (w := w)
    refine hair_ratio2 (by omega) (by omega) ?_
    simp
    exact this
theorem ref01_Mean (hb : BunV H r w bv) (hlim : lim ≤ H.length) (hK : K (.tup [.agg [.int .i64 (meanP r w).1, .int .i64 (meanP r w).2.1], .int .i64 (meanP r w).2.2]) H) : VCall tbl lim 49 [bv] H K := by
  refine VCall_fn tbl_at49 rfl ?_
  simp [vf49, hb.stor.1, hb.load]
  refine ref01_Validate hb ?_
  simp
  refine cond_ndec (fun he => ?_) fun he => ?_
  · rw [meanP, withE_err he] at hK
    simp
    exact hK
  · rw [meanP, withE_ok he] at hK
    simp [hb.stor.1, hb.load]
    refine ref01_open2 hb he ?_
    simp [hb.stor.1, hb.load]
    refine ref01_open2 hb he ?_
    simp
    refine ref01_inches2 op_bd ?_
    simp
    have b1 := inF_bd (f := op r w) op_bd
    refine ref01_part op_bd (by omega) ?_
    simp
    exact hK
theorem hair_Mats (hb : BunV H r w bv) (hlim : lim ≤ H.length) (hK : ∀ H', HX H H' → K (.tup [.agg [.int .i64 (matsP r w).1, .int .i64 (matsP r w).2.1], .int .i64 (matsP r w).2.2]) H') : VCall tbl lim 50 [bv] H K := by
  refine VCall_fn tbl_at50 rfl ?_
  simp [vf50, hb.stor.1, hb.load]
  refine hair_openFilled hb hlim (fun he H1 f x1 => ?_) fun hfe he hc H1 x1 => ?_
  · have := hK H1 x1
    rw [matsP, filled_err he] at this
    simp [he]
    exact this
  · have hk := hK H1 x1
    rw [matsP, withE_ok he, ratP_ok hc] at hk
    simp [rd48_hi]
    refine wLoop_up 24 (fun i fr L H' => (fr 2 = .lp 1 0 ∧ fr 4 = .lp 2 0 ∧ fr 6 = .int .i64 (wrF (op r w) i) ∧ fr 19 = .agg ((ints (mk48 (op r w))).drop 24) ∧ fr 20 = .int .i64 i) ∧ L = [cellsV bv, [.int .i64 0, .int .i64 0], ints (mk48 (op r w))] ∧ H' = H1) ⟨by simp [wrF], by simp, rfl⟩ ?_
    rintro i hi fr L H' ⟨⟨f2, f4, f6, f19, f20⟩, rfl, rfl⟩
    simp [f2, f4, f6, f19, f20]
    refine cond_dec (fun ht => ?_) fun hf => ?_
    · have e : rd none ((ints (mk48 (op r w))).drop 24) i = some (.int .i64 (op r w 1 (i + 1))) := by
        rw [show (ints (mk48 (op r w))).drop 24 = ints ((mk48 (op r w)).drop 24) by simp [ints, List.map_drop], rd_ints (by simp; omega), List.getD_eq_getElem?_getD, List.getElem?_drop, ← List.getD_eq_getElem?_getD, mk48_1 (by omega)]
      have b1 := wrF_bd (f := op r w) op_bd i
      have b2 := op_bd (r := r) (w := w) 1 (i + 1)
      simp (disch := omega) [f2, f4, f6, f19, f20, e, wrap_i64]
      exact ⟨by omega, by simp [wrF]⟩
    · have : i = 24 := by omega
      subst this
      simp [f2, f4, f6]
      refine sheaf_count2 op_bd' ?_
      simp
      have b1 := wrF_bd (f := op r w) op_bd 24
      have b3 := cntF_op2 (r := r) (w := w)
      refine hair_ratio2 (by omega) (by omega) ?_
      simp [f2]
      exact hk
theorem ref01_wrong {f : HF} (hf : ∀ w n, 0 ≤ f w n ∧ f w n ≤ 1000000) (hK : K (.int .i64 (wrF f 24)) H) : VCall tbl lim 88 [.agg (ints (mk50 f))] H K := by
  refine VCall_fn tbl_at88 rfl ?_
  simp [vf88]
  refine wLoop_up 24 (fun i fr L H' => (fr 1 = .lp 0 0 ∧ fr 3 = .int .i64 (wrF f i) ∧ fr 4 = .int .i64 ((i : Int) + 1)) ∧ L = [ints (mk50 f)] ∧ H' = H) ⟨by simp [wrF], by simp, rfl⟩ ?_
  rintro i hi fr L H' ⟨⟨f1, f3, f4⟩, rfl, rfl⟩
  simp [f1, f3, f4]
  refine cond_dec (fun ht => ?_) fun hg => ?_
  · have b1 := wrF_bd hf i
    have b2 := hf 1 (i + 1)
    simp (disch := omega) [f1, f3, f4, rd50_1, wrap_i64]
    exact ⟨by omega, by simp [wrF]⟩
  · have : i = 24 := by omega
    subst this
    simp [f1, f3, f4]
    exact hK
theorem ref01_Mats (hb : BunV H r w bv) (hlim : lim ≤ H.length) (hK : K (.tup [.agg [.int .i64 (matsP r w).1, .int .i64 (matsP r w).2.1], .int .i64 (matsP r w).2.2]) H) : VCall tbl lim 51 [bv] H K := by
  refine VCall_fn tbl_at51 rfl ?_
  simp [vf51, hb.stor.1, hb.load]
  refine ref01_Validate hb ?_
  simp
  refine cond_ndec (fun he => ?_) fun he => ?_
  · rw [matsP, withE_err he] at hK
    simp
    exact hK
  · rw [matsP, withE_ok he] at hK
    simp [hb.stor.1, hb.load]
    refine ref01_open2 hb he ?_
    simp [hb.stor.1, hb.load]
    refine ref01_open2 hb he ?_
    simp
    refine ref01_wrong op_bd ?_
    simp
    have b1 := wrF_bd (f := op r w) op_bd 24
    refine ref01_part op_bd (by omega) ?_
    simp
    exact hK
end
end Go.Proofs.Ytgmbjfdhbfhmgaa.Vm
