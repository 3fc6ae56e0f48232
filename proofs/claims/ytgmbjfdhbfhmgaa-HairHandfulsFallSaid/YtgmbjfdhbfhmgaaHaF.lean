/- Package hair over the machine: Same, what the laws write, three laws. -/
import Derived.Test.YtgmbjfdhbfhmgaaHaE
namespace Go.Proofs.Ytgmbjfdhbfhmgaa.Vm
open Go
set_option maxRecDepth 100000
set_option linter.unusedSimpArgs false
set_option linter.unusedVariables false
attribute [-simp] List.getD_eq_getElem?_getD

/-- kinds of cells that are all ints -/
def allI : List CK → Bool
  | [] => true
  | .int .i64 :: ks => allI ks
  | _ => false
theorem eqCells_ints : ∀ {ks : List CK} {a b : List Int}, allI ks = true → a.length = ks.length → b.length = ks.length → eqCells ks (ints a) (ints b) = some (decide (a = b))
  | [], a, b, hk, ha, hb => by
    have : a = [] := List.eq_nil_of_length_eq_zero ha
    have : b = [] := List.eq_nil_of_length_eq_zero hb
    subst_vars
    rfl
  | k :: ks, a, b, hk, ha, hb => by
    match a, b, k, ha, hb, hk with
    | x :: a, y :: b, .int .i64, ha, hb, hk =>
      have ih := eqCells_ints (ks := ks) (a := a) (b := b) hk (by simpa using ha) (by simpa using hb)
      simp only [ints] at ih
      simp only [ints, List.map_cons, eqCells, eqCell, and_self, if_true, ih]
      by_cases h1 : x = y <;> by_cases h2 : a = b <;> simp [h1, h2]
theorem veqA_48 {ks : List CK} {f g : HF} (hk : allI ks = true) (hl : ks.length = 48) : veqA false ks (.agg (ints (mk48 f))) (.agg (ints (mk48 g))) = some (.bool (decide (mk48 f = mk48 g))) := by
  simp only [veqA, eqCells_ints hk (mk48_len.trans hl.symm) (mk48_len.trans hl.symm)]; rfl
theorem veqA_50 {ks : List CK} {f g : HF} (hk : allI ks = true) (hl : ks.length = 50) : veqA false ks (.agg (ints (mk50 f))) (.agg (ints (mk50 g))) = some (.bool (decide (mk50 f = mk50 g))) := by
  simp only [veqA, eqCells_ints hk (mk50_len.trans hl.symm) (mk50_len.trans hl.symm)]; rfl
theorem mk48_inj {f g : HF} : mk48 f = mk48 g ↔ ∀ w n, w < 2 → 1 ≤ n → n ≤ 24 → f w n = g w n := by
  refine ⟨fun h w n hw h1 h2 => ?_, mk48_congr⟩
  have e : (mk48 f).getD (w * 24 + (n - 1)) 0 = (mk48 g).getD (w * 24 + (n - 1)) 0 := by rw [h]
  rw [mk48_at hw (by omega), mk48_at hw (by omega), show n - 1 + 1 = n by omega] at e
  exact e
theorem mk50_inj {f g : HF} : mk50 f = mk50 g ↔ ∀ w n, w < 2 → 1 ≤ n → n ≤ 24 → f w n = g w n := by
  refine ⟨fun h w n hw h1 h2 => ?_, mk50_congr⟩
  have e : (mk50 f).getD (w * 25 + n) 0 = (mk50 g).getD (w * 25 + n) 0 := by rw [h]
  rw [mk50_at hw h1 h2, mk50_at hw h1 h2] at e
  exact e

section
variable {lim : Nat} {H : Hp} {av bv : V} {r w r' w' : List Int} {K : V → Hp → Prop}

/-- the same hairs -/
def sameB (r w r' w' : List Int) : Bool := if er2 r w r' w' = 0 then decide (mk48 (op r w) = mk48 (op r' w')) else false

theorem hair_Same (ha : BunV H r w av) (hb : BunV H r' w' bv) (hlim : lim ≤ H.length) (hK : ∀ H', HX H H' → K (.tup [.bool (sameB r w r' w'), .int .i64 (er2 r w r' w')]) H') : VCall tbl lim 36 [av, bv] H K := by
  refine VCall_fn tbl_at36 rfl ?_
  simp [vf36, ha.stor.1, hb.stor.1, ha.load, hb.load]
  refine hair_openBoth ha hb hlim (fun he H1 x1 => ?_) fun he H1 x1 => ?_
  · simp [he]
    have := hK H1 x1
    simpa [sameB, he] using this
  · simp
    rw [veqA_48 ?hk ?hl]
    case hk => rfl
    case hl => rfl
    simp
    have := hK H1 x1
    simpa [sameB, he] using this

theorem ref01_Same (ha : BunV H r w av) (hb : BunV H r' w' bv) (hlim : lim ≤ H.length) (hK : K (.tup [.bool (sameB r w r' w'), .int .i64 (er2 r w r' w')]) H) : VCall tbl lim 37 [av, bv] H K := by
  refine VCall_fn tbl_at37 rfl ?_
  simp [vf37, ha.stor.1, hb.stor.1, ha.load, hb.load]
  refine ref01_both ha hb ?_
  simp
  refine cond_ndec (fun he => ?_) fun he => ?_
  · simp
    simpa [sameB, he] using hK
  have e1 : errOf r w = 0 := by unfold er2 at he; split at he <;> simp_all
  have e2 : errOf r' w' = 0 := by simpa [er2, e1] using he
  simp [ha.stor.1, hb.stor.1, ha.load, hb.load]
  refine ref01_open2 ha e1 ?_
  simp [hb.stor.1, hb.load]
  refine ref01_open2 hb e2 ?_
  simp
  rw [veqA_50 ?hk ?hl]
  case hk => rfl
  case hl => rfl
  simp
  have e : decide (mk50 (op r w) = mk50 (op r' w')) = decide (mk48 (op r w) = mk48 (op r' w')) := decide_eq_decide.2 (mk50_inj.trans mk48_inj.symm)
  rw [e]
  simpa [sameB, he] using hK
end

/-! writing into one's own lists -/
def Bel (m : Nat) (v : V) : Prop := ∀ b o k z, v = .sl b o k z → b < m
theorem law_spoilL {lim n m a c : Nat} {H : Hp} {rv wv : V} {K : V → Hp → Prop} (k1 : OwnL n H rv a) (k2 : OwnL n H wv c) (m1 : Bel m rv) (m2 : Bel m wv) (hlim : lim ≤ n) (hlen : a < 1000000 ∧ c < 1000000)
    (hK : ∀ H', H'.length = H.length → (∀ b, (b < n ∨ m ≤ b) → H'[b]? = H[b]?) → (∀ u k, OwnL n H u k → OwnL n H' u k) → K (.tup []) H') : VCall tbl lim 27 [.agg [rv, wv]] H K := by
  have s1 : stor rv = true := by obtain ⟨_, _, h⟩ := k1; exact h.sl.stor
  have s2 : stor wv = true := by obtain ⟨_, _, h⟩ := k2; exact h.sl.stor
  have o1 : cellsV rv = [rv] := by obtain ⟨_, _, h⟩ := k1; exact h.sl.one
  have o2 : cellsV wv = [wv] := by obtain ⟨_, _, h⟩ := k2; exact h.sl.one
  refine VCall_fn tbl_at27 rfl ?_
  simp [vf27, s1, s2, o1, o2]
  refine wLoop_up a (fun i fr L H' => (fr 1 = .lp 0 0 ∧ fr 2 = .int .i64 i) ∧ L = [[rv, wv]] ∧ H'.length = H.length ∧ (∀ b, (b < n ∨ m ≤ b) → H'[b]? = H[b]?) ∧ OwnL n H' rv a ∧ OwnL n H' wv c ∧ (∀ u k, OwnL n H u k → OwnL n H' u k)) ⟨by simp, rfl, rfl, fun _ _ => rfl, k1, k2, fun _ _ h => h⟩ ?_
  rintro i hi fr L H' ⟨⟨f1, f2⟩, rfl, hl, hold, ⟨x, hxl, hx⟩, q2, q3⟩
  simp [f1, f2, hx.sl.len]
  refine cond_dec (fun ht => ?_) fun hf => ?_
  · have ht : i < x.length := by omega
    simp (disch := omega) [f1, f2, hx.sl.addr, hx.store, wrap_i64, -vstore]
    refine ⟨by omega, by rw [setH_len hx]; exact hl, fun b hb => by rw [setH_oth hx m1 hb]; exact hold b hb, ?_, OwnL.set hx q2 (by simp), fun u k hu => OwnL.set hx (q3 u k hu) (by simp)⟩
    have := OwnL.set (l' := x.set i (-7)) hx hx.any (by simp)
    rw [hxl] at this; exact this
  · simp [f1, f2]
    refine wLoop_up c (fun i fr L H' => (fr 1 = .lp 0 0 ∧ fr 3 = .int .i64 i) ∧ L = [[rv, wv]] ∧ H'.length = H.length ∧ (∀ b, (b < n ∨ m ≤ b) → H'[b]? = H[b]?) ∧ OwnL n H' wv c ∧ (∀ u k, OwnL n H u k → OwnL n H' u k)) ⟨by simp [f1], rfl, hl, hold, q2, q3⟩ ?_
    clear hf hx hxl x q2 hold hl f1 f2 q3
    rintro i hi fr L H2 ⟨⟨f1, f3⟩, rfl, hl, hold, ⟨x, hxl, hx⟩, q3⟩
    simp [f1, f3, hx.sl.len]
    refine cond_dec (fun ht => ?_) fun hf => ?_
    · have ht : i < x.length := by omega
      simp (disch := omega) [f1, f3, hx.sl.addr, hx.store, wrap_i64, -vstore]
      refine ⟨by omega, by rw [setH_len hx]; exact hl, fun b hb => by rw [setH_oth hx m2 hb]; exact hold b hb, ?_, fun u k hu => OwnL.set hx (q3 u k hu) (by simp)⟩
      have := OwnL.set (l' := x.set i (-7)) hx hx.any (by simp)
      rw [hxl] at this; exact this
    · simp [f1, f3]
      exact hK H2 hl hold q3

theorem law_spoil {lim n : Nat} {H H0 : Hp} {bv : V} {r w : List Int} {K : V → Hp → Prop} (hb : OwnB n H0 r w bv) (hx0 : HX H0 H) (hlim : lim ≤ n) (hlen : r.length < 1000000 ∧ w.length < 1000000) (hK : ∀ H', H'.length = H.length → (∀ b, (b < n ∨ H0.length ≤ b) → H'[b]? = H[b]?) → K (.tup []) H') : VCall tbl lim 27 [bv] H K := by
  obtain ⟨h1, h2⟩ := hb
  exact law_spoilL (h1.mono hx0).any (h2.mono hx0).any h1.below h2.below hlim hlen fun H' a b _ => hK H' a b

theorem listN_len24 {f : HF} {w : Nat} : (sideF f w).length ≤ 24 := by
  simp only [sideF, listN_length]; exact lastN_le _ _
theorem outP_len {f : HF} : (outP f).1.length ≤ 24 ∧ (outP f).2.1.length ≤ 24 := by
  simp only [outP, outR, outW]
  split
  · simp
  · exact ⟨listN_len24, listN_len24⟩
theorem trimP_len {r w : List Int} : (trimP r w).1.length ≤ 24 ∧ (trimP r w).2.1.length ≤ 24 := by
  unfold trimP; split
  · exact outP_len
  · simp [errP]
theorem mixP_len {r w r' w' : List Int} : (mixP r w r' w').1.length ≤ 24 ∧ (mixP r w r' w').2.1.length ≤ 24 := by
  unfold mixP; split
  · exact outP_len
  · simp [errP]
theorem drawP_len {r w : List Int} {n : Int} : (drawP r w n).1.length ≤ 24 ∧ (drawP r w n).2.1.length ≤ 24 ∧ (drawP r w n).2.2.1.length ≤ 24 ∧ (drawP r w n).2.2.2.1.length ≤ 24 := by
  unfold drawP; split
  · split
    · simp [errQ]
    · split
      · simp [errQ]
      · exact ⟨listN_len24, listN_len24, listN_len24, listN_len24⟩
  · simp [errQ]
theorem mixP_comm {r w r' w' : List Int} (h : (mixP r w r' w').2.2 = 0) : mixP r' w' r w = mixP r w r' w' := by
  unfold mixP at h ⊢
  by_cases e1 : errOf r w = 0 <;> by_cases e2 : errOf r' w' = 0 <;> simp_all [er2, errP]
  have : addF (op r' w') (op r w) = addF (op r w) (op r' w') := by funext a n; simp only [addF]; omega
  rw [this]
section
variable {lim : Nat} {H : Hp} {av bv : V} {r w r' w' : List Int} {K : V → Hp → Prop}
theorem law_HairValidates (hb : BunV H r w bv) (hlim : lim ≤ H.length) (hK : ∀ H', K (.bool true) H') : VCall tbl lim 3 [bv] H K := by
  obtain ⟨hx, hy⟩ := hb
  rename_i rv wv
  have hb : BunV H r w (.agg [rv, wv]) := .mk hx hy
  refine VCall_fn tbl_at3 rfl ?_
  simp [vf3, hx.stor, hy.stor, hx.one, hy.one]
  refine law_Long hb ?_
  simp
  refine cond_bool (fun hl => ?_) fun hl => ?_
  · simp; refine law_known hlim fun H1 _ => ?_; simp; exact hK H1
  have hl : r.length ≤ 100 ∧ w.length ≤ 100 := by simpa using hl
  simp [hx.stor, hy.stor]
  refine ref01_Copy hb hlim (by omega) (by omega) fun H1 own x1 o1 => ?_
  have l1 := x1.len
  obtain ⟨a1, a2⟩ := o1
  have hown := BunV.mk a1.sl a2.sl
  simp [a1.sl.stor, a2.sl.stor, a1.sl.one, a2.sl.one]
  refine hair_Trim hown (by omega) fun H2 _ x2 o2 => ?_
  have l2 := x2.len
  obtain ⟨b1, b2⟩ := o2
  simp [b1.sl.stor, b2.sl.stor, b1.sl.one, b2.sl.one, hx.stor, hy.stor]
  refine ref01_Trim (hb.mono (x1.trans x2)) (by omega) fun H3 _ x3 o3 => ?_
  have l3 := x3.len
  obtain ⟨c1, c2⟩ := o3
  simp [c1.sl.stor, c2.sl.stor, c1.sl.one, c2.sl.one, a1.sl.stor]
  refine hair_Make (a1.sl.mono (x2.trans x3)) (by omega) fun H4 _ x4 o4 => ?_
  have l4 := x4.len
  obtain ⟨d1, d2⟩ := o4
  simp [d1.sl.stor, d2.sl.stor, d1.sl.one, d2.sl.one, hx.stor]
  refine ref01_Make (hx.mono (((x1.trans x2).trans x3).trans x4)) (by omega) fun H5 _ x5 o5 => ?_
  have l5 := x5.len
  obtain ⟨e1, e2⟩ := o5
  simp [e1.sl.stor, e2.sl.stor, e1.sl.one, e2.sl.one, a1.sl.stor, a2.sl.stor]
  refine hair_Validate (hown.mono (((x2.trans x3).trans x4).trans x5)) ?_
  simp [hx.stor, hy.stor]
  refine ref01_Validate (hb.mono ((((x1.trans x2).trans x3).trans x4).trans x5)) ?_
  simp [b1.sl.stor, b2.sl.stor, c1.sl.stor, c2.sl.stor]
  have t1 := trimP_len (r := r) (w := w)
  have t2 := trimP_len (r := r) (w := [])
  refine ref01_Equal (BunV.mk (b1.sl.mono ((x3.trans x4).trans x5)) (b2.sl.mono ((x3.trans x4).trans x5))) (BunV.mk (c1.sl.mono (x4.trans x5)) (c2.sl.mono (x4.trans x5))) (by omega) (by omega) ?_
  simp [d1.sl.stor, d2.sl.stor, e1.sl.stor, e2.sl.stor]
  refine ref01_Equal (BunV.mk (d1.sl.mono x5) (d2.sl.mono x5)) (BunV.mk e1.sl e2.sl) (by omega) (by omega) ?_
  simp [b1.sl.stor, b2.sl.stor]
  refine law_spoil (OwnB.mk b1 b2) ((x3.trans x4).trans x5) (by omega) (by omega) fun H6 g6 h6 => ?_
  simp [d1.sl.stor, d2.sl.stor]
  have x16 : HX H1 H6 := ((((x2.trans x3).trans x4).trans x5)).part g6 fun b hb => h6 b (by omega)
  have d1' := (d1.mono x5).keep (H' := H6) fun b hb => h6 b (by omega)
  have d2' := (d2.mono x5).keep (H' := H6) fun b hb => h6 b (by omega)
  refine law_spoil (OwnB.mk d1' d2') .refl (by omega) (by omega) fun H7 g7 h7 => ?_
  have x17 : HX H1 H7 := x16.part g7 fun b hb => h7 b (by omega)
  simp [a1.sl.stor, a2.sl.stor, hx.stor, hy.stor]
  refine ref01_Equal (hown.mono x17) (hb.mono (x1.trans x17)) (by omega) (by omega) ?_
  simp
  refine law_known (by have := x17.len; omega) fun H8 _ => ?_
  simp
  exact hK H8

theorem law_HairMixes (ha : BunV H r w av) (hb : BunV H r' w' bv) (hlim : lim ≤ H.length) (hK : ∀ H', K (.bool true) H') : VCall tbl lim 5 [av, bv] H K := by
  obtain ⟨hx, hy⟩ := ha
  rename_i rv wv
  have ha : BunV H r w (.agg [rv, wv]) := .mk hx hy
  obtain ⟨hz, hu⟩ := hb
  rename_i rv' wv'
  have hb : BunV H r' w' (.agg [rv', wv']) := .mk hz hu
  refine VCall_fn tbl_at5 rfl ?_
  simp [vf5, hx.stor, hy.stor, hx.one, hy.one, hz.stor, hu.stor, hz.one, hu.one]
  refine law_Long ha ?_
  by_cases hl1 : r.length ≤ 100 ∧ w.length ≤ 100
  case neg =>
    have : (decide (100 < r.length) || decide (100 < w.length)) = true := by simp; omega
    rw [this]
    simp; refine law_known hlim fun H1 _ => ?_; simp; exact hK H1
  have : (decide (100 < r.length) || decide (100 < w.length)) = false := by simp; omega
  rw [this]
  simp [hz.stor, hu.stor]
  refine law_Long hb ?_
  simp
  refine cond_bool (fun hl => ?_) fun hl => ?_
  · simp; refine law_known hlim fun H1 _ => ?_; simp; exact hK H1
  have hl2 : r'.length ≤ 100 ∧ w'.length ≤ 100 := by simpa using hl
  simp [hx.stor, hy.stor]
  refine ref01_Copy ha hlim (by omega) (by omega) fun H1 own x1 o1 => ?_
  have l1 := x1.len
  obtain ⟨a1, a2⟩ := o1
  have hown := BunV.mk a1.sl a2.sl
  simp [a1.sl.stor, a2.sl.stor, a1.sl.one, a2.sl.one, hz.stor, hu.stor]
  refine hair_Mix hown (hb.mono x1) (by omega) fun H2 _ x2 o2 => ?_
  have l2 := x2.len
  obtain ⟨b1, b2⟩ := o2
  simp [b1.sl.stor, b2.sl.stor, b1.sl.one, b2.sl.one, hx.stor, hy.stor, hz.stor, hu.stor]
  refine ref01_Mix (ha.mono (x1.trans x2)) (hb.mono (x1.trans x2)) (by omega) fun H3 _ x3 o3 => ?_
  have l3 := x3.len
  obtain ⟨c1, c2⟩ := o3
  have ha3 := ha.mono ((x1.trans x2).trans x3)
  have hb3 := hb.mono ((x1.trans x2).trans x3)
  simp [c1.sl.stor, c2.sl.stor, c1.sl.one, c2.sl.one, hx.stor, hy.stor, hz.stor, hu.stor]
  refine hair_Same ha3 hb3 (by omega) fun H4 x4 => ?_
  have l4 := x4.len
  simp [hx.stor, hy.stor, hz.stor, hu.stor]
  refine ref01_Same (ha3.mono x4) (hb3.mono x4) (by omega) ?_
  simp [b1.sl.stor, b2.sl.stor, c1.sl.stor, c2.sl.stor]
  have t1 := mixP_len (r := r) (w := w) (r' := r') (w' := w')
  have t2 := mixP_len (r := r') (w := w') (r' := r) (w' := w)
  refine ref01_Equal (BunV.mk (b1.sl.mono (x3.trans x4)) (b2.sl.mono (x3.trans x4))) (BunV.mk (c1.sl.mono x4) (c2.sl.mono x4)) (by omega) (by omega) ?_
  simp [hx.stor, hy.stor, hz.stor, hu.stor]
  refine hair_Mix (hb3.mono x4) (ha3.mono x4) (by omega) fun H5 _ x5 o5 => ?_
  have l5 := x5.len
  obtain ⟨d1, d2⟩ := o5
  have bH5 := BunV.mk (b1.sl.mono ((x3.trans x4).trans x5)) (b2.sl.mono ((x3.trans x4).trans x5))
  simp [d1.sl.stor, d2.sl.stor, d1.sl.one, d2.sl.one]
  by_cases he : (mixP r w r' w').2.2 = 0
  · have hc := mixP_comm he
    simp [he, hc, d1.sl.stor, d2.sl.stor, b1.sl.stor, b2.sl.stor]
    refine ref01_Equal (BunV.mk d1.sl d2.sl) bH5 (by omega) (by omega) ?_
    rw [hc]
    simp [b1.sl.stor, b2.sl.stor]
    refine law_spoil (OwnB.mk b1 b2) ((x3.trans x4).trans x5) (by omega) (by omega) fun H6 g6 h6 => ?_
    have x16 : HX H1 H6 := (((x2.trans x3).trans x4).trans x5).part g6 fun b hb => h6 b (by omega)
    simp [a1.sl.stor, a2.sl.stor, hx.stor, hy.stor]
    refine ref01_Equal (hown.mono x16) (ha.mono (x1.trans x16)) (by omega) (by omega) ?_
    simp
    refine law_known (by have := x16.len; omega) fun H8 _ => ?_
    simp
    exact hK H8
  · simp [he, b1.sl.stor, b2.sl.stor]
    refine law_spoil (OwnB.mk b1 b2) ((x3.trans x4).trans x5) (by omega) (by omega) fun H6 g6 h6 => ?_
    have x16 : HX H1 H6 := (((x2.trans x3).trans x4).trans x5).part g6 fun b hb => h6 b (by omega)
    simp [a1.sl.stor, a2.sl.stor, hx.stor, hy.stor]
    refine ref01_Equal (hown.mono x16) (ha.mono (x1.trans x16)) (by omega) (by omega) ?_
    simp
    refine law_known (by have := x16.len; omega) fun H8 _ => ?_
    simp
    exact hK H8

theorem law_HairDraws (hb : BunV H r w bv) (hlim : lim ≤ H.length) {n : Int} (hn : I64 n) (hK : ∀ H', K (.bool true) H') : VCall tbl lim 6 [bv, .int .i64 n] H K := by
  obtain ⟨hx, hy⟩ := hb
  rename_i rv wv
  have hb : BunV H r w (.agg [rv, wv]) := .mk hx hy
  refine VCall_fn tbl_at6 rfl ?_
  simp [vf6, hx.stor, hy.stor, hx.one, hy.one]
  refine law_Long hb ?_
  simp
  refine cond_bool (fun hl => ?_) fun hl => ?_
  · simp; refine law_known hlim fun H1 _ => ?_; simp; exact hK H1
  have hl : r.length ≤ 100 ∧ w.length ≤ 100 := by simpa using hl
  simp [hx.stor, hy.stor]
  refine ref01_Copy hb hlim (by omega) (by omega) fun H1 own x1 o1 => ?_
  have l1 := x1.len
  obtain ⟨a1, a2⟩ := o1
  have hown := BunV.mk a1.sl a2.sl
  simp [a1.sl.stor, a2.sl.stor, a1.sl.one, a2.sl.one]
  refine hair_Draw hown (by omega) hn fun H2 _ _ x2 o2 o2' => ?_
  have l2 := x2.len
  obtain ⟨b1, b2⟩ := o2
  obtain ⟨c1, c2⟩ := o2'
  simp [b1.sl.stor, b2.sl.stor, b1.sl.one, b2.sl.one, c1.sl.stor, c2.sl.stor, c1.sl.one, c2.sl.one, hx.stor, hy.stor]
  refine ref01_Draw (hb.mono (x1.trans x2)) (by omega) hn fun H3 _ _ x3 o3 o3' => ?_
  have l3 := x3.len
  obtain ⟨d1, d2⟩ := o3
  obtain ⟨e1, e2⟩ := o3'
  have t := drawP_len (r := r) (w := w) (n := n)
  simp [d1.sl.stor, d2.sl.stor, d1.sl.one, d2.sl.one, e1.sl.stor, e2.sl.stor, e1.sl.one, e2.sl.one, b1.sl.stor, b2.sl.stor]
  refine ref01_Equal (BunV.mk (b1.sl.mono x3) (b2.sl.mono x3)) (BunV.mk d1.sl d2.sl) (by omega) (by omega) ?_
  simp [c1.sl.stor, c2.sl.stor, e1.sl.stor, e2.sl.stor]
  refine ref01_Equal (BunV.mk (c1.sl.mono x3) (c2.sl.mono x3)) (BunV.mk e1.sl e2.sl) (by omega) (by omega) ?_
  simp [b1.sl.stor, b2.sl.stor]
  refine law_spoilL (n := H1.length) (m := H2.length) (b1.mono x3).any (b2.mono x3).any b1.below b2.below (by omega) (by omega) fun H4 g4 h4 q4 => ?_
  have x14 : HX H1 H4 := (x2.trans x3).part g4 fun b hb => h4 b (by omega)
  simp [c1.sl.stor, c2.sl.stor]
  refine law_spoilL (n := H1.length) (m := H2.length) (q4 _ _ (c1.mono x3).any) (q4 _ _ (c2.mono x3).any) c1.below c2.below (by omega) (by omega) fun H5 g5 h5 _ => ?_
  have x15 : HX H1 H5 := x14.part g5 fun b hb => h5 b (by omega)
  simp [a1.sl.stor, a2.sl.stor, hx.stor, hy.stor]
  refine ref01_Equal (hown.mono x15) (hb.mono (x1.trans x15)) (by omega) (by omega) ?_
  simp
  refine law_known (by have := x15.len; omega) fun H8 _ => ?_
  simp
  exact hK H8
end
end Go.Proofs.Ytgmbjfdhbfhmgaa.Vm
