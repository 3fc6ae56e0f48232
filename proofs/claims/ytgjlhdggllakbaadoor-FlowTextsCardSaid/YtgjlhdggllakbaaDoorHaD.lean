/- Package hair over the machine: sums of hairs, drawing. -/
import Derived.Test.YtgjlhdggllakbaaDoorHaC
namespace Go.Proofs.YtgjlhdggllakbaaDoor.Vm
open Go
set_option maxRecDepth 100000
set_option linter.unusedSimpArgs false
set_option linter.unusedVariables false
attribute [-simp] List.getD_eq_getElem?_getD

theorem lastN_congr {f g : Nat → Int} : ∀ {k : Nat}, (∀ n, 1 ≤ n → n ≤ k → f n = g n) → lastN f k = lastN g k
  | 0, _ => rfl
  | k + 1, h => by
    simp only [lastN, h (k + 1) (by omega) (Nat.le_refl _), lastN_congr (k := k) fun n h1 h2 => h n h1 (by omega)]
theorem listN_congr {f g : Nat → Int} {k : Nat} (h : ∀ n, 1 ≤ n → n ≤ k → f n = g n) : listN f k = listN g k := by
  refine List.map_congr_left fun n hn => ?_
  have hn : n < k := by simpa using hn
  exact h _ (by omega) (by omega)
theorem hair_trim {lim : Nat} {H : Hp} {lv : V} {l : List Int} (hl : SlV H lv l) (hlen : 0 < l.length ∧ l.length ≤ 1000) (hlim : lim ≤ H.length) {K : V → Hp → Prop}
    (hK : ∀ H' v, HX H H' → OwnV H.length H' v (listN (fun n => l.getD (n - 1) 0) (lastN (fun n => l.getD (n - 1) 0) l.length)) → K v H') : VCall tbl lim 42 [lv] H K := by
  refine VCall_fn tbl_at42 rfl ?_
  simp [vf42, hl.len]
  generalize hF : (fun n => l.getD (n - 1) 0) = F at hK
  have hFm : ∀ m, l.getD m 0 = F (m + 1) := fun m => by rw [← hF]; rfl
  refine wLoop_up l.length (fun i fr L H' => ∃ n : Nat, (fr 0 = lv ∧ fr 3 = .int .i64 0 ∧ fr 4 = .int .i64 n) ∧ L = [] ∧ H' = H ∧ n + i = l.length ∧ lastN F n = lastN F l.length) ⟨l.length, by simp, rfl, rfl, by omega, rfl⟩ ?_
  rintro i hi fr L H' ⟨n, ⟨h0, h3, h4⟩, rfl, rfl, hn, hlast⟩
  have hs : ∀ c : Int, c = n → vslS 1 lv none (some (.int .i64 c)) = some (subV lv 0 n) := by
    rintro c rfl; exact hl.subW (by omega) hlen.1 (vbounds_hi (by omega))
  have hsub := hl.sub (a := 0) (b := n) (by omega)
  rw [List.drop_zero, Nat.sub_zero] at hsub
  obtain ⟨v', H2, e1, e2, e3⟩ := vappend_nil (lim := lim) (n := H'.length) hsub (Nat.le_refl _) (by simp; omega)
  have fin : (n = 0 ∨ F n ≠ 0) → K v' H2 := by
    intro hz
    refine hK _ _ e3 ?_
    have e : l.take n = listN F (lastN F l.length) := by
      rw [← hlast]
      have : lastN F n = n := by
        rcases n with _ | m
        · rfl
        · simp only [lastN]; rw [if_neg]; rcases hz with h | h; · cases h
          exact h
      rw [this]
      refine ext_getD (by simp; omega) fun k hk => ?_
      have hk : k < n ∧ k < l.length := by simpa [Nat.lt_min] using hk
      rw [listN, getD_map_range (by omega), ← hFm, List.getD_eq_getElem?_getD, List.getD_eq_getElem?_getD, List.getElem?_take_of_lt hk.1]
    rw [← e]; exact e2
  rcases n with _ | m
  · simp (disch := omega) [h0, h3, h4, hs 0 rfl, e1, e2.sl.stor]
    exact fin (Or.inl rfl)
  · have hpos : (0 : Int) < (m : Int) + 1 := by omega
    simp (disch := omega) [h0, h3, h4, hl.addr, hl.load, wrap_i64, hFm, hpos]
    refine cond_dec (fun hz => ?_) fun hz => ?_
    · simp (disch := omega) [h0, h3, h4, wrap_i64]
      exact ⟨by omega, m, rfl, by omega, by rw [← hlast]; simp [lastN, hz]⟩
    · simp (disch := omega) [h0, h3, h4, hs ((m : Int) + 1) (by omega), e1, e2.sl.stor]
      exact fin (Or.inr hz)

theorem hair_trimmed {lim : Nat} {H : Hp} {f : HF} (hlim : lim ≤ H.length) {K : V → Hp → Prop} (hK : ∀ H' v, HX H H' → OwnB H.length H' (sideF f 0) (sideF f 1) v → K v H') : VCall tbl lim 23 [.agg (ints (mk48 f))] H K := by
  refine VCall_fn tbl_at23 rfl ?_
  have hx0 : HX H (H ++ [Blk.row (ints (mk48 f)) true]) := HX.push
  have hg : (H ++ [Blk.row (ints (mk48 f)) true])[H.length]? = some (.row (ints (mk48 f)) true) := List.getElem?_concat_length
  have a0 : SlV (H ++ [Blk.row (ints (mk48 f)) true]) (.sl H.length 0 24 1) ((mk48 f).take 24) := by
    have := SlV.sl (l := (mk48 f).take 24) (off := 0) hg (by simp) (by simp [ints, List.map_take])
    simpa using this
  have a1 : SlV (H ++ [Blk.row (ints (mk48 f)) true]) (.sl H.length 24 24 1) ((mk48 f).drop 24) := by
    have := SlV.sl (l := (mk48 f).drop 24) (off := 24) hg (by simp) (by
      rw [show ((mk48 f).drop 24).length = 24 by simp]
      rw [List.take_of_length_le (by simp)]; simp [ints, List.map_drop])
    simpa using this
  simp [vf23, vslA_all hg]
  have hl0 := hx0.len
  refine hair_trim a0 (by simp) (by simp) fun H1 v1 x1 o1 => ?_
  simp [vslA_all (x1.get hg)]
  have hl1 := x1.len
  refine hair_trim (a1.mono x1) (by simp) (Nat.le_refl _) fun H2 v2 x2 o2 => ?_
  simp [o1.sl.stor, o2.sl.stor, o1.sl.one, o2.sl.one, splice]
  refine hK H2 _ ((hx0.trans x1).trans x2) ?_
  have h := OwnB.mk (n := H.length) ((o1.mono x2).le hl0) (o2.le (Nat.le_trans hl0 hl1))
  have e0 : listN (fun n => ((mk48 f).take 24).getD (n - 1) 0) (lastN (fun n => ((mk48 f).take 24).getD (n - 1) 0) ((mk48 f).take 24).length) = sideF f 0 := by
    have hc : ∀ n, 1 ≤ n → n ≤ 24 → ((mk48 f).take 24).getD (n - 1) 0 = f 0 n := by
      intro n h1 h2
      rw [List.getD_eq_getElem?_getD, List.getElem?_take_of_lt (by omega), ← List.getD_eq_getElem?_getD, mk48_0 (by omega)]
      congr 1; omega
    have el : ((mk48 f).take 24).length = 24 := by simp
    rw [el, lastN_congr hc, listN_congr fun n h1 h2 => hc n h1 (by have := lastN_le (f 0) 24; omega)]; rfl
  have e1 : listN (fun n => ((mk48 f).drop 24).getD (n - 1) 0) (lastN (fun n => ((mk48 f).drop 24).getD (n - 1) 0) ((mk48 f).drop 24).length) = sideF f 1 := by
    have hc : ∀ n, 1 ≤ n → n ≤ 24 → ((mk48 f).drop 24).getD (n - 1) 0 = f 1 n := by
      intro n h1 h2
      rw [List.getD_eq_getElem?_getD, List.getElem?_drop, ← List.getD_eq_getElem?_getD, mk48_1 (by omega)]
      congr 1; omega
    have el : ((mk48 f).drop 24).length = 24 := by simp
    rw [el, lastN_congr hc, listN_congr fun n h1 h2 => hc n h1 (by have := lastN_le (f 1) 24; omega)]; rfl
  rw [e0, e1] at h
  exact h

/-! bundles with an error -/
def bigN (f : HF) : Nat → Bool
  | 0 => false
  | k + 1 => bigN f k || (decide (1000000 < f 0 (k + 1)) || decide (1000000 < f 1 (k + 1)))
theorem bigN_mono {f : HF} {j : Nat} (hj : bigN f j = true) : ∀ {k : Nat}, j ≤ k → bigN f k = true
  | 0, h => by have : j = 0 := by omega
               subst this; exact hj
  | k + 1, h => by
    by_cases e : j = k + 1
    · subst e; exact hj
    · simp only [bigN, bigN_mono hj (k := k) (by omega), Bool.true_or]
/-- the trimmed bundle of hairs, or ErrLarge -/
def outR (f : HF) : List Int := if bigN f 24 then [] else sideF f 0
def outW (f : HF) : List Int := if bigN f 24 then [] else sideF f 1
def outE (f : HF) : Int := if bigN f 24 then 4 else 0

theorem hair_bundle {lim : Nat} {H : Hp} {f : HF} (hlim : lim ≤ H.length) {K : V → Hp → Prop} (hK : ∀ H' v, HX H H' → OwnB H.length H' (outR f) (outW f) v → K (.tup [v, .int .i64 (outE f)]) H') : VCall tbl lim 48 [.agg (ints (mk48 f))] H K := by
  refine VCall_fn tbl_at48 rfl ?_
  simp [vf48]
  refine wLoop_up 24 (fun i fr L H' => (fr 1 = .lp 0 0 ∧ fr 2 = .lp 1 0 ∧ fr 3 = .int .i64 0 ∧ fr 5 = .int .i64 i) ∧ L = [ints (mk48 f), [.snil, .snil]] ∧ H' = H ∧ bigN f i = false) ⟨by simp, rfl, rfl, rfl⟩ ?_
  rintro i hi fr L H' ⟨⟨h1, h2, h3, h5⟩, rfl, rfl, hb⟩
  simp [h1, h2, h3, h5]
  refine cond_dec (fun ht => ?_) fun hf => ?_
  · simp (disch := omega) [h1, h2, h3, h5, rd48_0, rd48_1]
    have hnext : bigN f (i + 1) = (decide (1000000 < f 0 (i + 1)) || decide (1000000 < f 1 (i + 1))) := by simp [bigN, hb]
    refine cond_bool (fun hz => ?_) fun hz => ?_
    · have := bigN_mono (hnext.trans hz) (k := 24) (by omega)
      simp [h2, splice]
      have hk := hK H' (.agg [.snil, .snil]) .refl (by simp only [outR, outW, this, if_true]; exact .zero)
      simpa [outE, this] using hk
    · simp (disch := omega) [h1, h2, h3, h5, wrap_i64]
      exact ⟨by omega, hnext.trans hz⟩
  · have : i = 24 := by omega
    subst this
    simp [h1, h2, h3, h5]
    refine hair_trimmed hlim fun H1 v x o => ?_
    obtain ⟨o1, o2⟩ := o
    simp [h2, splice, o1.sl.stor, o2.sl.stor, o1.sl.one, o2.sl.one]
    have hk := hK H1 _ x (by simp only [outR, outW, hb]; exact .mk o1 o2)
    simpa [outE, hb] using hk

theorem hair_bundle' {lim : Nat} {H : Hp} {f : HF} {xs : List Int} (hx : xs = mk48 f) (hlim : lim ≤ H.length) {K : V → Hp → Prop} (hK : ∀ H' v, HX H H' → OwnB H.length H' (outR f) (outW f) v → K (.tup [v, .int .i64 (outE f)]) H') : VCall tbl lim 48 [.agg (ints xs)] H K := by
  subst hx; exact hair_bundle hlim hK

/-- one length more -/
theorem mk48_step {f h : HF} {i : Nat} {x y : Int} (hx : x = h 0 (i + 1)) (hy : y = h 1 (i + 1)) : mk48 (fset (fset (fun w n => if n ≤ i then h w n else f w n) 0 (i + 1) x) 1 (i + 1) y) = mk48 (fun w n => if n ≤ i + 1 then h w n else f w n) := by
  subst hx; subst hy
  refine mk48_congr fun w n hw h1 h2 => ?_
  simp only [fset]
  grind

/-- the hairs of the greatest lengths -/
def abv (f : HF) : Nat → Int
  | 0 => 0
  | m + 1 => abv f m + (f 0 (24 - m) + f 1 (24 - m))
/-- what is drawn of n hairs -/
def drw (f : HF) (n : Int) : HF := fun w L =>
  if w = 0 then min (max 0 (n - abv f (24 - L))) (f 0 L) else min (max 0 (n - abv f (24 - L)) - min (max 0 (n - abv f (24 - L))) (f 0 L)) (f w L)

theorem mk48_down {f h : HF} {k : Nat} {x y : Int} (hk : k < 24) (hx : x = h 0 (k + 1)) (hy : y = h 1 (k + 1)) : mk48 (fset (fset (fun w n => if k + 1 < n then h w n else f w n) 0 (k + 1) x) 1 (k + 1) y) = mk48 (fun w n => if k < n then h w n else f w n) := by
  subst hx; subst hy
  refine mk48_congr fun w n hw h1 h2 => ?_
  simp only [fset]
  grind

theorem abv_nonneg {f : HF} (hf : ∀ w n, 0 ≤ f w n ∧ f w n ≤ 1000000000) : ∀ m, 0 ≤ abv f m ∧ abv f m ≤ m * 2000000000
  | 0 => by simp [abv]
  | m + 1 => by
    have := abv_nonneg hf m
    have b0 := hf 0 (24 - m)
    have b1 := hf 1 (24 - m)
    simp only [abv]; omega

theorem mk50_half {f h : HF} {w0 L0 i : Nat} {x : Int} (hi : i = 2 * (24 - L0) + w0) (hw : w0 < 2) (h1 : 1 ≤ L0) (h2 : L0 ≤ 24) (hx : x = h w0 L0) :
    mk50 (fset (fun w L => if 2 * (24 - L) + w < i then h w L else f w L) w0 L0 x) = mk50 (fun w L => if 2 * (24 - L) + w < i + 1 then h w L else f w L) := by
  subst hx
  refine mk50_congr fun w n hw h1 h2 => ?_
  simp only [fset]
  by_cases e : w = w0 ∧ n = L0
  · rw [if_pos e, if_pos (by omega), e.1, e.2]
  · rw [if_neg e]
    by_cases c : 2 * (24 - n) + w < i
    · rw [if_pos c, if_pos (by omega)]
    · rw [if_neg c, if_neg (by omega)]

/-- what is left of n before the half step i -/
def rem2 (f : HF) (n : Int) (i : Nat) : Int := if i % 2 = 0 then max 0 (n - abv f (i / 2)) else max 0 (n - abv f (i / 2)) - min (max 0 (n - abv f (i / 2))) (f 0 (24 - i / 2))

end Go.Proofs.YtgjlhdggllakbaaDoor.Vm
