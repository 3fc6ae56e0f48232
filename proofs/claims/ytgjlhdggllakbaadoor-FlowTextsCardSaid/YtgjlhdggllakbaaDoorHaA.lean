/- Package hair over the machine: opening a bundle, counting. -/
import Derived.Test.YtgjlhdggllakbaaDoorVmTab
import Derived.Test.YtgjlhdggllakbaaDoorVmRec
namespace Go.Proofs.YtgjlhdggllakbaaDoor.Vm
open Go
set_option maxRecDepth 100000
set_option linter.unusedSimpArgs false
attribute [-simp] List.getD_eq_getElem?_getD

/-- the sum of the two ways of lying over the last k lengths -/
def restN (xs : List Int) : Nat → Int
  | 0 => 0
  | k + 1 => (xs.getD (23 - k) 0 + xs.getD (47 - k) 0) + restN xs k

def Small (xs : List Int) : Prop := ∀ x ∈ xs, -1099511627776 ≤ x ∧ x ≤ 1099511627776
theorem Small.at {xs : List Int} (h : Small xs) (i : Nat) : -1099511627776 ≤ xs.getD i 0 ∧ xs.getD i 0 ≤ 1099511627776 := by
  by_cases hi : i < xs.length
  · rw [List.getD_eq_getElem?_getD, List.getElem?_eq_getElem hi]; exact h _ (List.getElem_mem hi)
  · rw [List.getD_eq_getElem?_getD, List.getElem?_eq_none (by omega)]; simp

def aboveS (xs : List Int) (n : Int) : Int := restN xs (24 - (max n 1 - 1).toNat)

theorem sheaf_above {lim : Nat} {xs : List Int} (h48 : xs.length = 48) (hs : Small xs) {n : Int} (hn : -9223372036854775808 ≤ n ∧ n ≤ 9223372036854775807) {H : Hp} {K : V → Hp → Prop}
    (hK : K (.int .i64 (aboveS xs n)) H) : VCall tbl lim 62 [.agg (ints xs), .int .i64 n] H K := by
  refine VCall_fn tbl_at62 rfl ?_
  simp [vf62]
  have hw : IntKind.i64.wrap (max n 1 - 1) = max n 1 - 1 := wrap_i64 (by omega) (by omega)
  rw [hw]
  refine wLoop_inv (fun k s => ∃ acc i, s.fr 2 = .lp 0 0 ∧ s.fr 5 = .int .i64 acc ∧ s.fr 6 = .int .i64 i ∧ s.L = [ints xs] ∧ s.H = H ∧ 0 ≤ i ∧ k = 24 - i.toNat ∧ acc + restN xs k = aboveS xs n ∧
    -(24 - k) * 2199023255552 ≤ acc ∧ acc ≤ (24 - k) * 2199023255552) ?_ (n := 24 - (max n 1 - 1).toNat) ?_
  · rintro k ⟨fr, L, H'⟩ ⟨acc, i, h2, h5, h6, rfl, rfl, hi, hk, hacc, hb1, hb2⟩
    simp only at h2 h5 h6
    simp [h2, h5, h6]
    refine cond_bool (fun ht => ?_) fun hf => ?_
    · have ht : i < 24 := by simpa using ht
      obtain ⟨j, rfl⟩ : ∃ j : Nat, i = j := ⟨i.toNat, by omega⟩
      have hj : j < 24 := by omega
      simp only [Int.toNat_natCast] at hk
      have b1 := hs.at j
      have b2 := hs.at (24 + j)
      simp [h2, h5, h6, hj, ht, rd_ints, h48, show j < 48 by omega, show 24 + j < 48 by omega]
      obtain ⟨m, rfl⟩ : ∃ m, k = m + 1 := ⟨k - 1, by omega⟩
      have e1 : 23 - m = j := by omega
      have e2 : 47 - m = 24 + j := by omega
      simp only [restN, e1, e2] at hacc
      rw [wrap_i64 (n := (j : Int) + 1) (by omega) (by omega), wrap_i64 (n := xs.getD j 0 + xs.getD (24 + j) 0) (by omega) (by omega), wrap_i64 (by omega) (by omega)]
      refine ⟨m, by omega, by omega, by omega, by omega, by omega, by omega⟩
    · have hf : ¬ i < 24 := by simpa using hf
      simp [h2, h5, h6]
      have : k = 0 := by omega
      subst this
      simp only [restN, Int.add_zero] at hacc
      rw [hacc]; exact hK
  · simp
    refine ⟨by omega, ?_, ?_⟩
    · simp [aboveS]
    · omega

theorem SlV.at {H : Hp} {v : V} {l : List Int} (h : SlV H v l) {i : Nat} (hi : i < l.length) : ∃ b o, viaddrS 1 v (.int .i64 i) = some (.ptr b o) ∧ ∀ L, vload none L H (.ptr b o) = some (.int .i64 (l.getD i 0)) := by
  cases h with
  | nil => simp at hi
  | empty => simp at hi
  | sl h1 h2 h3 =>
    rename_i b off cs own
    refine ⟨b, off + i, ?_, fun L => ?_⟩
    · rw [viaddrS_in (by omega)]; simp
    · rw [vload_ptr h1]
      have hlt : off + i < cs.length := by omega
      simp only [rd, hlt, if_true]
      have e : (cs.drop off)[i]? = (ints l)[i]? := by
        rw [← h3, List.getElem?_take_of_lt hi]
      rw [List.getElem?_drop, ints_get?, List.getElem?_eq_getElem hi] at e
      simp [List.getD_eq_getElem?_getD, e, hi]

def anyNeg (l : List Int) : Bool := l.any (· < 0)
def anyBig (l : List Int) : Bool := l.any (1000000 < ·)
def errOf (r w : List Int) : Int :=
  if 24 < r.length ∨ 24 < w.length then 4 else if anyNeg r ∨ anyNeg w then 1 else if anyBig r ∨ anyBig w then 4 else 0

theorem any_snoc {p : Int → Bool} {l : List Int} {i : Nat} (h : i < l.length) : (l.take (i + 1)).any p = ((l.take i).any p || p (l.getD i 0)) := by
  rw [take_snoc h, List.any_append]; simp
theorem any_at {p : Int → Bool} {l : List Int} {i : Nat} (h : i < l.length) (hp : p (l.getD i 0) = true) : l.any p = true := by
  rw [List.any_eq_true]
  exact ⟨l[i], List.getElem_mem h, by rw [List.getD_eq_getElem?_getD, List.getElem?_eq_getElem h] at hp; exact hp⟩

/-- 'listError' -/
theorem ref01_listError {lim : Nat} {H : Hp} {av bv : V} {a b : List Int} (ha : SlV H av a) (hb : SlV H bv b) {K : V → Hp → Prop} (hK : K (.int .i64 (errOf a b)) H) : VCall tbl lim 63 [av, bv] H K := by
  refine VCall_fn tbl_at63 rfl ?_
  simp [vf63, ha.len, hb.len]
  have hend : ∀ x : Int, x = errOf a b → K (.int .i64 x) H := fun x h => h ▸ hK
  by_cases c1 : 24 < a.length
  · have c1' : 24 < (a.length : Int) := by omega
    simp [c1']
    exact hend _ (by simp [errOf, c1])
  by_cases c2 : 24 < b.length
  · have c1' : ¬ 24 < (a.length : Int) := by omega
    have c2' : 24 < (b.length : Int) := by omega
    simp [c1', c2', hb.len]
    exact hend _ (by simp [errOf, c2])
  have c1' : ¬ 24 < (a.length : Int) := by omega
  have c2' : ¬ 24 < (b.length : Int) := by omega
  simp [c1', c2', hb.len]
  -- the first list
  refine wLoop_inv (fun k s => ∃ i : Nat, s.fr 0 = av ∧ s.fr 1 = bv ∧ s.fr 5 = .bool (anyBig (a.take i)) ∧ s.fr 6 = .int .i64 i ∧ s.L = [] ∧ s.H = H ∧ i ≤ a.length ∧ k = a.length - i ∧ anyNeg (a.take i) = false) ?_ (n := a.length) ?_
  case refine_2 => exact ⟨0, by simp, by simp, by simp [anyBig], by simp, rfl, rfl, by omega, by omega, by simp [anyNeg]⟩
  rintro k ⟨fr, L, H'⟩ ⟨i, h0, h1, h5, h6, rfl, rfl, hi, hk, hneg⟩
  simp only at h0 h1 h5 h6
  simp [h0, h1, h5, h6, ha.len]
  refine cond_bool (fun ht => ?_) fun hf => ?_
  · have ht : i < a.length := by simpa using ht
    obtain ⟨bb, oo, e1, e2⟩ := ha.at ht
    simp [h0, h1, h5, h6, e1, e2]
    refine cond_bool (fun hn => ?_) fun hn => ?_
    · have hn : a.getD i 0 < 0 := by simpa using hn
      simp
      refine hend _ ?_
      have : anyNeg a = true := any_at ht (by simpa using hn)
      simp [errOf, c1, c2, this]
    · have hn : ¬ a.getD i 0 < 0 := by simpa using hn
      have hneg' : anyNeg (a.take (i + 1)) = false := by
        unfold anyNeg at hneg ⊢
        rw [any_snoc ht, hneg]; simpa using hn
      have hbig : anyBig (a.take (i + 1)) = (anyBig (a.take i) || decide (1000000 < a.getD i 0)) := any_snoc ht
      cases hb1 : anyBig (a.take i) with
      | true =>
        simp [h0, h1, h5, h6, hb1]
        rw [wrap_i64 (by omega) (by omega)]
        refine ⟨a.length - (i + 1), by omega, i + 1, ?_, by omega, by omega, rfl, hneg'⟩
        rw [hbig, hb1]; rfl
      | false =>
        simp [h0, h1, h5, h6, hb1, e1, e2]
        rw [wrap_i64 (by omega) (by omega)]
        refine ⟨a.length - (i + 1), by omega, i + 1, ?_, by omega, by omega, rfl, hneg'⟩
        rw [hbig, hb1]; rfl
  · have hf : ¬ i < a.length := by simpa using hf
    have hil : i = a.length := by omega
    subst hil
    rw [List.take_length] at hneg h5
    simp [h0, h1, h5, h6]
    -- the second list
    refine wLoop_inv (fun k s => ∃ i : Nat, s.fr 0 = av ∧ s.fr 1 = bv ∧ s.fr 5 = .bool (anyBig a || anyBig (b.take i)) ∧ s.fr 7 = .int .i64 i ∧ s.L = [] ∧ s.H = H' ∧ i ≤ b.length ∧ k = b.length - i ∧ anyNeg (b.take i) = false) ?_ (n := b.length) ?_
    case refine_2 => exact ⟨0, by simp [h0], by simp [h1], by simp [h5]; simp [anyBig], by simp, rfl, rfl, by omega, by omega, by simp [anyNeg]⟩
    rintro k ⟨fr, L, H'⟩ ⟨i, h0, h1, h5, h6, rfl, rfl, hi, hk, hnegb⟩
    simp only at h0 h1 h5 h6
    simp [h0, h1, h5, h6, hb.len]
    refine cond_bool (fun ht => ?_) fun hf => ?_
    · have ht : i < b.length := by simpa using ht
      obtain ⟨bb, oo, e1, e2⟩ := hb.at ht
      simp [h0, h1, h5, h6, e1, e2]
      refine cond_bool (fun hn => ?_) fun hn => ?_
      · have hn : b.getD i 0 < 0 := by simpa using hn
        simp
        refine hend _ ?_
        have : anyNeg b = true := any_at ht (by simpa using hn)
        simp [errOf, c1, c2, this]
      · have hn : ¬ b.getD i 0 < 0 := by simpa using hn
        have hneg' : anyNeg (b.take (i + 1)) = false := by
          unfold anyNeg at hnegb ⊢
          rw [any_snoc ht, hnegb]; simpa using hn
        have hbig : anyBig (b.take (i + 1)) = (anyBig (b.take i) || decide (1000000 < b.getD i 0)) := any_snoc ht
        cases hb1 : (anyBig a || anyBig (b.take i)) with
        | true =>
          rw [hb1] at h5
          simp [h0, h1, h5, h6]
          rw [wrap_i64 (by omega) (by omega)]
          refine ⟨b.length - (i + 1), by omega, i + 1, ?_, by omega, by omega, rfl, hneg'⟩
          rw [hbig]; revert hb1; cases anyBig a <;> cases anyBig (b.take i) <;> simp
        | false =>
          rw [hb1] at h5
          simp [h0, h1, h5, h6, e1, e2]
          rw [wrap_i64 (by omega) (by omega)]
          refine ⟨b.length - (i + 1), by omega, i + 1, ?_, by omega, by omega, rfl, hneg'⟩
          rw [hbig]; revert hb1; cases anyBig a <;> cases anyBig (b.take i) <;> simp
    · have hf : ¬ i < b.length := by simpa using hf
      have hil : i = b.length := by omega
      subst hil
      rw [List.take_length] at hnegb h5
      simp [h0, h1, h5, h6]
      refine cond_bool (fun hl => ?_) fun hl => ?_
      · simp
        refine hend _ ?_
        simp at hl
        simp [errOf, c1, c2, hneg, hnegb, hl]
      · simp
        refine hend _ ?_
        simp at hl
        simp [errOf, c1, c2, hneg, hnegb, hl]


inductive BunV (H : Hp) (r w : List Int) : V → Prop
  | mk {rv wv : V} : SlV H rv r → SlV H wv w → BunV H r w (.agg [rv, wv])

theorem ref01_Validate {lim : Nat} {H : Hp} {bv : V} {r w : List Int} (hb : BunV H r w bv) {K : V → Hp → Prop} (hK : K (.int .i64 (errOf r w)) H) : VCall tbl lim 43 [bv] H K := by
  obtain ⟨h1, h2⟩ := hb
  refine VCall_fn tbl_at43 rfl ?_
  simp [vf43, h1.stor, h2.stor]
  refine ref01_listError h1 h2 ?_
  simpa using hK

theorem errOf_app {r w : List Int} : errOf r w = if 24 < r.length ∨ 24 < w.length then 4 else if anyNeg (r ++ w) then 1 else if anyBig (r ++ w) then 4 else 0 := by
  unfold errOf anyNeg anyBig
  simp only [List.any_append, Bool.or_eq_true]

theorem anyNeg_app {a b : List Int} : anyNeg (a ++ b) = (anyNeg a || anyNeg b) := List.any_append
theorem anyBig_app {a b : List Int} : anyBig (a ++ b) = (anyBig a || anyBig b) := List.any_append

theorem hair_Validate {lim : Nat} {H : Hp} {bv : V} {r w : List Int} (hb : BunV H r w bv) {K : V → Hp → Prop} (hK : K (.int .i64 (errOf r w)) H) : VCall tbl lim 41 [bv] H K := by
  obtain ⟨ha, hb⟩ := hb
  rename_i rv wv
  refine VCall_fn tbl_at41 rfl ?_
  have hend : ∀ x : Int, x = errOf r w → K (.int .i64 x) H := fun x h => h ▸ hK
  simp [vf41, ha.stor, hb.stor, ha.len]
  by_cases c1 : 24 < r.length
  · have c1' : 24 < (r.length : Int) := by omega
    simp [c1']
    exact hend _ (by simp [errOf, c1])
  by_cases c2 : 24 < w.length
  · have c1' : ¬ 24 < (r.length : Int) := by omega
    have c2' : 24 < (w.length : Int) := by omega
    simp [c1', c2', hb.len]
    exact hend _ (by simp [errOf, c2])
  have c1' : ¬ 24 < (r.length : Int) := by omega
  have c2' : ¬ 24 < (w.length : Int) := by omega
  simp [c1', c2', hb.len, ha.stor, hb.stor, ha.one, hb.one, splice]
  refine wLoop_inv (fun k s => ∃ (j : Nat) (done : List Int), s.fr 22 = .agg [rv, wv] ∧ s.fr 23 = .int .i64 j ∧ s.fr 3 = .bool (anyBig done) ∧ s.L = [[rv, wv]] ∧ s.H = H ∧ k = 2 - j ∧ anyNeg done = false ∧
    (j = 0 ∧ done = [] ∨ j = 1 ∧ done = r ∨ j = 2 ∧ done = r ++ w)) ?_ (n := 2) ?_
  case refine_2 => exact ⟨0, [], by simp, by simp, by simp [anyBig], by simp, rfl, rfl, by simp [anyNeg], Or.inl ⟨rfl, rfl⟩⟩
  rintro k ⟨fr, L, H'⟩ ⟨j, done, h22, h23, h3, rfl, rfl, hk, hneg, hj⟩
  simp only at h22 h23 h3
  simp [h22, h23, h3]
  refine cond_bool (fun ht => ?_) fun hf => ?_
  · have ht : j < 2 := by
      have : (j : Int) < 2 := by simpa using ht
      omega
    obtain ⟨l, lv, hl, hl24, hlv, hnext⟩ : ∃ l lv, SlV H' lv l ∧ l.length ≤ 24 ∧ (rd none [rv, wv] j = some lv) ∧ (j + 1 = 1 ∧ done ++ l = r ∨ j + 1 = 2 ∧ done ++ l = r ++ w) := by
      rcases hj with ⟨rfl, rfl⟩ | ⟨rfl, rfl⟩ | ⟨rfl, rfl⟩
      · exact ⟨r, rv, ha, by omega, rfl, Or.inl ⟨rfl, rfl⟩⟩
      · exact ⟨w, wv, hb, by omega, rfl, Or.inr ⟨rfl, rfl⟩⟩
      · omega
    have ht' : (j : Int) < 2 := by omega
    simp [h22, h23, h3, hlv, hl.len, ht']
    refine wLoop_inv (fun k s => ∃ i : Nat, s.fr 22 = .agg [rv, wv] ∧ s.fr 23 = .int .i64 j ∧ s.fr 26 = lv ∧ s.fr 27 = .int .i64 l.length ∧ s.fr 28 = .int .i64 i ∧ s.fr 3 = .bool (anyBig (done ++ l.take i)) ∧ s.L = [[rv, wv]] ∧ s.H = H' ∧ i ≤ l.length ∧ k = l.length - i ∧ anyNeg (done ++ l.take i) = false) ?_ (n := l.length) ?_
    case refine_2 => exact ⟨0, by simp [h22], by simp [h23], by simp, by simp, by simp, by simp [h3], rfl, rfl, by omega, by omega, by simpa using hneg⟩
    rintro k2 ⟨fr, L, H2⟩ ⟨i, h22, h23, h26, h27, h28, h3, rfl, rfl, hi, hk2, hneg2⟩
    simp only at h22 h23 h26 h27 h28 h3
    simp [h22, h23, h26, h27, h28, h3]
    refine cond_bool (fun ht => ?_) fun hf => ?_
    · have ht : i < l.length := by simpa using ht
      obtain ⟨bb, oo, e1, e2⟩ := hl.at ht
      simp [h26, h27, h28, h3, e1, e2]
      refine cond_bool (fun hn => ?_) fun hn => ?_
      · simp
        refine hend _ ?_
        have hn2 : anyNeg l = true := any_at ht (by simpa using hn)
        have : anyNeg (r ++ w) = true := by
          rcases hnext with ⟨_, e⟩ | ⟨_, e⟩
          · rw [← e]; simp [anyNeg_app, hn2]
          · rw [← e]; simp [anyNeg_app, hn2]
        rw [errOf_app]
        simp [c1, c2, this]
      · have hn : ¬ l.getD i 0 < 0 := by simpa using hn
        have hneg' : anyNeg (done ++ l.take (i + 1)) = false := by
          rw [take_snoc ht, ← List.append_assoc, anyNeg_app, hneg2]; simpa [anyNeg] using hn
        have hbig : anyBig (done ++ l.take (i + 1)) = (anyBig (done ++ l.take i) || decide (1000000 < l.getD i 0)) := by
          rw [take_snoc ht, ← List.append_assoc, anyBig_app]; simp [anyBig]
        cases hb1 : anyBig (done ++ l.take i) with
        | true =>
          rw [hb1] at h3
          simp [h22, h23, h26, h27, h28, h3]
          rw [wrap_i64 (by omega) (by omega)]
          refine ⟨l.length - (i + 1), by omega, i + 1, by omega, ?_, by omega, rfl, hneg'⟩
          rw [hbig, hb1]; rfl
        | false =>
          rw [hb1] at h3
          simp [h22, h23, h26, h27, h28, h3, e1, e2]
          rw [wrap_i64 (by omega) (by omega)]
          refine ⟨l.length - (i + 1), by omega, i + 1, by omega, ?_, by omega, rfl, hneg'⟩
          rw [hbig, hb1]; rfl
    · have hf : ¬ i < l.length := by simpa using hf
      have hil : i = l.length := by omega
      subst hil
      rw [List.take_length] at hneg2 h3
      simp [h22, h23, h3]
      rw [wrap_i64 (by omega) (by omega)]
      refine ⟨2 - (j + 1), by omega, j + 1, by omega, done ++ l, rfl, by omega, hneg2, ?_⟩
      rcases hnext with ⟨h1, h2⟩ | ⟨h1, h2⟩
      · exact Or.inr (Or.inl ⟨h1, h2⟩)
      · exact Or.inr (Or.inr ⟨h1, h2⟩)
  · have hf : 2 ≤ j := by
      have : (2 : Int) ≤ j := by simpa using hf
      omega
    obtain ⟨rfl, rfl⟩ : j = 2 ∧ done = r ++ w := by
      rcases hj with h | h | h
      · omega
      · omega
      · exact h
    simp [h3]
    refine cond_bool (fun hl => ?_) fun hl => ?_
    · simp
      refine hend _ ?_
      rw [errOf_app]
      simp [c1, c2, hneg, hl]
    · simp
      refine hend _ ?_
      rw [errOf_app]
      simp [c1, c2, hneg, hl]

theorem BunV.mono {H H' : Hp} (hx : HX H H') {v : V} {r w : List Int} (h : BunV H r w v) : BunV H' r w v := by
  cases h with
  | mk h1 h2 => exact .mk (h1.mono hx) (h2.mono hx)

def pad (l : List Int) : List Int := l ++ List.replicate (24 - l.length) 0
def sheafOf (r w : List Int) : List Int := pad r ++ pad w
theorem pad_length {l : List Int} (h : l.length ≤ 24) : (pad l).length = 24 := by simp [pad]; omega
theorem sheafOf_length {r w : List Int} (h1 : r.length ≤ 24) (h2 : w.length ≤ 24) : (sheafOf r w).length = 48 := by simp [sheafOf, pad_length h1, pad_length h2]
theorem errOf_zero {r w : List Int} (h : errOf r w = 0) : r.length ≤ 24 ∧ w.length ≤ 24 ∧ anyNeg r = false ∧ anyNeg w = false ∧ anyBig r = false ∧ anyBig w = false := by
  unfold errOf at h
  split at h
  · cases h
  split at h
  · cases h
  split at h
  · cases h
  · rename_i h1 h2 h3
    simp at h2 h3
    refine ⟨by omega, by omega, h2.1, h2.2, h3.1, h3.2⟩


/-- the sheaf that 'open' returns -/
def opened (r w : List Int) : List Int := if errOf r w = 0 then sheafOf r w else zs 48
theorem opened_length {r w : List Int} : (opened r w).length = 48 := by
  unfold opened
  split
  · rename_i h; exact sheafOf_length (errOf_zero h).1 (errOf_zero h).2.1
  · simp

theorem hair_open {lim : Nat} {H : Hp} {bv : V} {r w : List Int} (hb : BunV H r w bv) (hlim : lim ≤ H.length) {K : V → Hp → Prop} (hK : ∀ H', HX H H' → K (.tup [.agg (ints (opened r w)), .int .i64 (errOf r w)]) H') : VCall tbl lim 22 [bv] H K := by
  obtain ⟨ha, hb⟩ := hb
  rename_i rv wv
  refine VCall_fn tbl_at22 rfl ?_
  simp [vf22, rd_two, ha.stor, hb.stor]
  refine hair_Validate ⟨ha, hb⟩ ?_
  simp
  refine cond_bool (fun he => ?_) fun he => ?_
  · have he : ¬ errOf r w = 0 := by simpa using he
    simp
    have := hK H HX.refl
    rwa [opened, if_neg he] at this
  · have he : errOf r w = 0 := by simpa using he
    obtain ⟨l1, l2, _⟩ := errOf_zero he
    have hx1 : HX H (H ++ [Blk.row (ints (zs 48)) true]) := HX.push
    have hg : (H ++ [Blk.row (ints (zs 48)) true])[H.length]? = some (.row (ints (zs 48)) true) := List.getElem?_concat_length
    have hc1 := vcopy_ints (lim := lim) (n := 24) (m := zs 48) (off := 0) (ha.mono hx1) hlim hg l1 (by simp)
    simp [vslA_all hg, rd_two0, rd_two1, hc1]
    have hlen1 : (r ++ (zs 48).drop r.length).length = 48 := by simp; omega
    have hx2 : HX H (H ++ [Blk.row (ints (r ++ (zs 48).drop r.length)) true]) := HX.push
    have hg2 : (H ++ [Blk.row (ints (r ++ (zs 48).drop r.length)) true])[H.length]? = some (.row (ints (r ++ (zs 48).drop r.length)) true) := List.getElem?_concat_length
    have hc2 := vcopy_ints (lim := lim) (n := 24) (m := r ++ (zs 48).drop r.length) (off := 24) (hb.mono hx2) hlim hg2 l2 (by omega)
    have hm2 : (r ++ (zs 48).drop r.length).take 24 ++ w ++ (r ++ (zs 48).drop r.length).drop (24 + w.length) = sheafOf r w := by
      have e : r ++ (zs 48).drop r.length = pad r ++ zs 24 := by
        simp only [pad, zs, List.drop_replicate, List.append_assoc, List.append_cancel_left_eq, List.replicate_append_replicate]
        congr 1; omega
      rw [e, List.take_left' (pad_length l1), ← List.drop_drop, List.drop_left' (pad_length l1)]
      simp only [sheafOf, pad, zs, List.drop_replicate, List.append_assoc]
    rw [hm2] at hc2
    rw [vslA_all hg2 (by rw [ints_length]; omega)]
    simp [rd_two0, rd_two1, hc2]
    have hs48 := sheafOf_length l1 l2
    have hg3 : (H ++ [Blk.row (ints (sheafOf r w)) true])[H.length]? = some (.row (ints (sheafOf r w)) true) := List.getElem?_concat_length
    rw [rd_ints_all hs48.symm]
    simp [hs48]
    have := hK _ (HX.push (H := H) (x := Blk.row (ints (sheafOf r w)) true))
    rwa [opened, if_pos he, he] at this

theorem sheaf_count {lim : Nat} {xs : List Int} (h48 : xs.length = 48) (hs : Small xs) {H : Hp} {K : V → Hp → Prop}
    (hK : K (.int .i64 (aboveS xs 1)) H) : VCall tbl lim 39 [.agg (ints xs)] H K := by
  refine VCall_fn tbl_at39 rfl ?_
  simp [vf39, h48]
  refine sheaf_above h48 hs (by omega) ?_
  simpa using hK

def inRest (xs : List Int) : Nat → Int
  | 0 => 0
  | k + 1 => (24 - k) * (xs.getD (23 - k) 0 + xs.getD (47 - k) 0) + inRest xs k
def inchesS (xs : List Int) : Int := inRest xs 24

theorem mul_bound {j : Nat} {t : Int} (hj : j < 24) (h1 : -2199023255552 ≤ t) (h2 : t ≤ 2199023255552) : -52776558133248 ≤ ((j : Int) + 1) * t ∧ ((j : Int) + 1) * t ≤ 52776558133248 := by
  have hj' : j = 0 ∨ j = 1 ∨ j = 2 ∨ j = 3 ∨ j = 4 ∨ j = 5 ∨ j = 6 ∨ j = 7 ∨ j = 8 ∨ j = 9 ∨ j = 10 ∨ j = 11 ∨ j = 12 ∨ j = 13 ∨ j = 14 ∨ j = 15 ∨ j = 16 ∨ j = 17 ∨ j = 18 ∨ j = 19 ∨ j = 20 ∨ j = 21 ∨ j = 22 ∨ j = 23 := by omega
  rcases hj' with h | h | h | h | h | h | h | h | h | h | h | h | h | h | h | h | h | h | h | h | h | h | h | h <;> subst h <;> constructor <;> simp <;> omega

theorem sheaf_inches {lim : Nat} {xs : List Int} (h48 : xs.length = 48) (hs : Small xs) {H : Hp} {K : V → Hp → Prop}
    (hK : K (.int .i64 (inchesS xs)) H) : VCall tbl lim 40 [.agg (ints xs)] H K := by
  refine VCall_fn tbl_at40 rfl ?_
  simp [vf40]
  refine wLoop_inv (fun k s => ∃ (acc : Int) (j : Nat), s.fr 1 = .lp 0 0 ∧ s.fr 3 = .int .i64 acc ∧ s.fr 5 = .int .i64 j ∧ s.L = [ints xs] ∧ s.H = H ∧ j ≤ 24 ∧ k = 24 - j ∧ acc + inRest xs k = inchesS xs ∧
    -(24 - k) * 52776558133248 ≤ acc ∧ acc ≤ (24 - k) * 52776558133248) ?_ (n := 24) ?_
  case refine_2 => exact ⟨0, 0, by simp, by simp, by simp, by simp, rfl, by omega, by omega, by simp [inchesS], by omega, by omega⟩
  rintro k ⟨fr, L, H'⟩ ⟨acc, j, h2, h5, h6, rfl, rfl, hi, hk, hacc, hb1, hb2⟩
  simp only at h2 h5 h6
  simp [h2, h5, h6]
  refine cond_bool (fun ht => ?_) fun hf => ?_
  · have ht : (j : Int) < 24 := by simpa using ht
    have hj : j < 24 := by omega
    have b1 := hs.at j
    have b2 := hs.at (24 + j)
    simp [h2, h5, h6, hj, ht, rd_ints, h48, show j < 48 by omega, show 24 + j < 48 by omega]
    obtain ⟨m, rfl⟩ : ∃ m, k = m + 1 := ⟨k - 1, by omega⟩
    have e1 : 23 - m = j := by omega
    have e2 : 47 - m = 24 + j := by omega
    have e3 : (24 : Int) - m = j + 1 := by omega
    simp only [inRest, e1, e2, e3] at hacc
    have b3 := mul_bound (t := xs.getD j 0 + xs.getD (24 + j) 0) hj (by omega) (by omega)
    rw [wrap_i64 (n := (j : Int) + 1) (by omega) (by omega), wrap_i64 (n := xs.getD j 0 + xs.getD (24 + j) 0) (by omega) (by omega), wrap_i64 (n := ((j : Int) + 1) * _) (by omega) (by omega), wrap_i64 (by omega) (by omega)]
    refine ⟨m, by omega, j + 1, by omega, by omega, by omega, by omega, by omega, by omega⟩
  · have hf : ¬ (j : Int) < 24 := by simpa using hf
    simp [h2, h5, h6]
    have : k = 0 := by omega
    subst this
    simp only [inRest, Int.add_zero] at hacc
    rw [hacc]; exact hK

theorem anyNeg_false {l : List Int} (h : anyNeg l = false) : ∀ x ∈ l, 0 ≤ x := by
  intro x hx
  have := List.any_eq_false.1 h x hx
  simpa using this
theorem anyBig_false {l : List Int} (h : anyBig l = false) : ∀ x ∈ l, x ≤ 1000000 := by
  intro x hx
  have := List.any_eq_false.1 h x hx
  simpa using this

/-- every number of a sheaf that was opened is from 0 to 1000000 -/
theorem opened_mem {r w : List Int} : ∀ x ∈ opened r w, 0 ≤ x ∧ x ≤ 1000000 := by
  intro x hx
  unfold opened at hx
  split at hx
  · rename_i h
    obtain ⟨_, _, h3, h4, h5, h6⟩ := errOf_zero h
    simp only [sheafOf, pad, List.mem_append] at hx
    rcases hx with (hx | hx) | hx | hx
    · exact ⟨anyNeg_false h3 x hx, anyBig_false h5 x hx⟩
    · have := List.eq_of_mem_replicate hx; omega
    · exact ⟨anyNeg_false h4 x hx, anyBig_false h6 x hx⟩
    · have := List.eq_of_mem_replicate hx; omega
  · have := List.eq_of_mem_replicate hx; omega
theorem opened_small {r w : List Int} : Small (opened r w) := fun x hx => by
  have := opened_mem x hx; omega

section
variable {lim : Nat} {H : Hp} {bv : V} {r w : List Int} {K : V → Hp → Prop}
theorem BunV.stor (h : BunV H r w bv) : stor bv = true ∧ (cellsV bv).length = 2 := by
  cases h with
  | mk h1 h2 => exact ⟨rfl, rfl⟩
theorem BunV.load (h : BunV H r w bv) : rd (some 2) (cellsV bv) 0 = some bv := by
  cases h with
  | mk h1 h2 => exact rd_two

theorem hair_Count (hb : BunV H r w bv) (hlim : lim ≤ H.length) (hK : ∀ H', HX H H' → K (.tup [.int .i64 (aboveS (opened r w) 1), .int .i64 (errOf r w)]) H') : VCall tbl lim 20 [bv] H K := by
  refine VCall_fn tbl_at20 rfl ?_
  simp [vf20, hb.stor.1, hb.load]
  refine hair_open hb hlim fun H' hx => ?_
  simp [opened_length]
  refine sheaf_count opened_length opened_small ?_
  simp
  exact hK H' hx

theorem hair_Inches (hb : BunV H r w bv) (hlim : lim ≤ H.length) (hK : ∀ H', HX H H' → K (.tup [.int .i64 (inchesS (opened r w)), .int .i64 (errOf r w)]) H') : VCall tbl lim 21 [bv] H K := by
  refine VCall_fn tbl_at21 rfl ?_
  simp [vf21, hb.stor.1, hb.load]
  refine hair_open hb hlim fun H' hx => ?_
  simp [opened_length]
  refine sheaf_inches opened_length opened_small ?_
  simp
  exact hK H' hx

end

end Go.Proofs.YtgjlhdggllakbaaDoor.Vm
