/- Package hair over the machine: lists that calls make. -/
import Derived.Test.YtnfhccioglpjhaaHaB
namespace Go.Proofs.Ytnfhccioglpjhaa.Vm
open Go
set_option maxRecDepth 100000
set_option linter.unusedSimpArgs false
set_option linter.unusedVariables false
attribute [-simp] List.getD_eq_getElem?_getD

theorem ref01_CopyInts {lim : Nat} {H : Hp} {av : V} {a : List Int} (ha : SlV H av a) (hlim : lim ≤ H.length) (hl : a.length ≤ 1000) {K : V → Hp → Prop} (hK : ∀ H' v, HX H H' → OwnV H.length H' v a → K v H') : VCall tbl lim 14 [av] H K := by
  refine VCall_fn tbl_at14 rfl ?_
  simp [vf14]
  refine wLoop_up a.length (fun i fr L H' => ∃ v, (fr 0 = av ∧ fr 3 = v ∧ fr 4 = .int .i64 i) ∧ L = [] ∧ HX H H' ∧ OwnV H.length H' v (a.take i)) ⟨.snil, by simp, rfl, .refl, .nil⟩ ?_
  rintro i hi fr L H' ⟨v, ⟨h0, h3, h4⟩, rfl, hx, hv⟩
  have ha' := ha.mono hx
  have hxl := hx.len
  have htl : (a.take i).length = i := by simp; omega
  simp [h0, h3, h4, ha.len]
  refine cond_dec (fun ht => ?_) fun hf => ?_
  · have hv2 := hv.append (lim := lim) (x := a.getD i 0) (by omega)
    simp (disch := omega) [h0, h3, h4, ha'.addr, ha'.load, splice, hv2, wrap_i64]
    refine ⟨by omega, hv.apX hx (Nat.le_refl _), ?_⟩
    rw [take_snoc (by omega)]
    simpa [htl] using hv.ap hxl
  · have : i = a.length := by omega
    subst this
    rw [List.take_length] at hv
    simp [h0, h3, hv.sl.stor]
    exact hK _ _ hx hv

/-- a bundle that the call made -/
inductive OwnB (n : Nat) (H : Hp) (r w : List Int) : V → Prop
  | mk {rv wv : V} : OwnV n H rv r → OwnV n H wv w → OwnB n H r w (.agg [rv, wv])
theorem OwnB.mono {n : Nat} {H H' : Hp} (hx : HX H H') {v : V} {r w : List Int} (h : OwnB n H r w v) : OwnB n H' r w v := by
  cases h with
  | mk h1 h2 => exact .mk (h1.mono hx) (h2.mono hx)
theorem OwnB.bun {n : Nat} {H : Hp} {v : V} {r w : List Int} (h : OwnB n H r w v) : BunV H r w v := by
  cases h with
  | mk h1 h2 => exact .mk h1.sl h2.sl
theorem OwnB.le {n m : Nat} (hnm : n ≤ m) {H : Hp} {v : V} {r w : List Int} (h : OwnB m H r w v) : OwnB n H r w v := by
  cases h with
  | mk h1 h2 => exact .mk (h1.le hnm) (h2.le hnm)
theorem OwnB.zero {n : Nat} {H : Hp} : OwnB n H [] [] (.agg [.snil, .snil]) := .mk .nil .nil
theorem OwnB.stor {n : Nat} {H : Hp} {v : V} {r w : List Int} (h : OwnB n H r w v) : stor v = true ∧ (cellsV v).length = 2 := by
  cases h; exact ⟨rfl, rfl⟩

/-! hairs as a function of the way of lying (0, 1) and the length (1 to 24) -/
abbrev HF := Nat → Nat → Int
def mk48 (f : HF) : List Int := (List.range 48).map fun k => f (k / 24) (k % 24 + 1)
def mk50 (f : HF) : List Int := (List.range 50).map fun k => if k % 25 = 0 then 0 else f (k / 25) (k % 25)
def fset (f : HF) (w n : Nat) (x : Int) : HF := fun w' n' => if w' = w ∧ n' = n then x else f w' n'
@[simp] theorem mk48_len {f : HF} : (mk48 f).length = 48 := by simp [mk48]
@[simp] theorem mk50_len {f : HF} : (mk50 f).length = 50 := by simp [mk50]
theorem mk48_at {f : HF} {w i : Nat} (hw : w < 2) (h : i < 24) : (mk48 f).getD (w * 24 + i) 0 = f w (i + 1) := by
  rw [mk48, getD_map_range (by omega)]
  congr 1 <;> omega
theorem mk48_0 {f : HF} {i : Nat} (h : i < 24) : (mk48 f).getD i 0 = f 0 (i + 1) := by
  have := mk48_at (f := f) (w := 0) (i := i) (by omega) h
  simpa using this
theorem mk48_1 {f : HF} {i : Nat} (h : i < 24) : (mk48 f).getD (24 + i) 0 = f 1 (i + 1) := by
  have := mk48_at (f := f) (w := 1) (i := i) (by omega) h
  simpa using this
theorem mk50_at {f : HF} {w n : Nat} (hw : w < 2) (h1 : 1 ≤ n) (h2 : n ≤ 24) : (mk50 f).getD (w * 25 + n) 0 = f w n := by
  rw [mk50, getD_map_range (by omega), if_neg (by omega)]
  congr 1 <;> omega
theorem mk50_0 {f : HF} {n : Nat} (h : 1 ≤ n ∧ n ≤ 24) : (mk50 f).getD n 0 = f 0 n := by
  have := mk50_at (f := f) (w := 0) (n := n) (by omega) h.1 h.2
  simpa using this
theorem mk50_1 {f : HF} {n : Nat} (h : 1 ≤ n ∧ n ≤ 24) : (mk50 f).getD (25 + n) 0 = f 1 n := by
  have := mk50_at (f := f) (w := 1) (n := n) (by omega) h.1 h.2
  simpa using this
theorem mk48_congr {f g : HF} (h : ∀ w n, w < 2 → 1 ≤ n → n ≤ 24 → f w n = g w n) : mk48 f = mk48 g := by
  refine List.map_congr_left fun k hk => ?_
  have : k < 48 := by simpa using hk
  exact h _ _ (by omega) (by omega) (by omega)
theorem mk50_congr {f g : HF} (h : ∀ w n, w < 2 → 1 ≤ n → n ≤ 24 → f w n = g w n) : mk50 f = mk50 g := by
  refine List.map_congr_left fun k hk => ?_
  have : k < 50 := by simpa using hk
  by_cases e : k % 25 = 0
  · rw [if_pos e, if_pos e]
  · rw [if_neg e, if_neg e]; exact h _ _ (by omega) (by omega) (by omega)
theorem mk48_set {f : HF} {w i : Nat} {x : Int} (hw : w < 2) (h : i < 24) : (mk48 f).set (w * 24 + i) x = mk48 (fset f w (i + 1) x) := by
  refine ext_getD (by simp) fun k hk => ?_
  have hk : k < 48 := by simpa using hk
  rw [getD_set (by simp; omega)]
  rw [mk48, mk48, getD_map_range hk, getD_map_range hk]
  simp only [fset]
  by_cases e : k = w * 24 + i
  · rw [if_pos e, if_pos (by omega)]
  · rw [if_neg e, if_neg (by omega)]
theorem mk48_set0 {f : HF} {i : Nat} {x : Int} (h : i < 24) : (mk48 f).set i x = mk48 (fset f 0 (i + 1) x) := by
  have := mk48_set (f := f) (w := 0) (x := x) (by omega) h
  simpa using this
theorem mk48_set1 {f : HF} {i : Nat} {x : Int} (h : i < 24) : (mk48 f).set (24 + i) x = mk48 (fset f 1 (i + 1) x) := by
  have := mk48_set (f := f) (w := 1) (x := x) (by omega) h
  simpa using this
theorem mk50_set {f : HF} {w n : Nat} {x : Int} (hw : w < 2) (h1 : 1 ≤ n) (h2 : n ≤ 24) : (mk50 f).set (w * 25 + n) x = mk50 (fset f w n x) := by
  refine ext_getD (by simp) fun k hk => ?_
  have hk : k < 50 := by simpa using hk
  rw [getD_set (by simp; omega)]
  rw [mk50, mk50, getD_map_range hk, getD_map_range hk]
  simp only [fset]
  by_cases e : k = w * 25 + n
  · rw [if_pos e, if_neg (by omega), if_pos (by omega)]
  · rw [if_neg e]
    by_cases e0 : k % 25 = 0
    · rw [if_pos e0, if_pos e0]
    · rw [if_neg e0, if_neg e0, if_neg (by omega)]
theorem mk50_set0 {f : HF} {n : Nat} {x : Int} (h : 1 ≤ n ∧ n ≤ 24) : (mk50 f).set n x = mk50 (fset f 0 n x) := by
  have := mk50_set (f := f) (w := 0) (x := x) (by omega) h.1 h.2
  simpa using this
theorem mk50_set1 {f : HF} {n : Nat} {x : Int} (h : 1 ≤ n ∧ n ≤ 24) : (mk50 f).set (25 + n) x = mk50 (fset f 1 n x) := by
  have := mk50_set (f := f) (w := 1) (x := x) (by omega) h.1 h.2
  simpa using this
theorem rd48_0 {f : HF} {i : Nat} (h : i < 24) : rd none (ints (mk48 f)) i = some (.int .i64 (f 0 (i + 1))) := by rw [rd_ints (by simp; omega), mk48_0 h]
theorem rd48_1 {f : HF} {i : Nat} (h : i < 24) : rd none (ints (mk48 f)) (24 + i) = some (.int .i64 (f 1 (i + 1))) := by rw [rd_ints (by simp; omega), mk48_1 h]
theorem rd50_0 {f : HF} {n : Nat} (h : 1 ≤ n ∧ n ≤ 24) : rd none (ints (mk50 f)) n = some (.int .i64 (f 0 n)) := by rw [rd_ints (by simp; omega), mk50_0 h]
theorem rd50_1 {f : HF} {n : Nat} (h : 1 ≤ n ∧ n ≤ 24) : rd none (ints (mk50 f)) (25 + n) = some (.int .i64 (f 1 n)) := by rw [rd_ints (by simp; omega), mk50_1 h]
theorem rd50_at {f : HF} {w n : Nat} (h : w < 2 ∧ 1 ≤ n ∧ n ≤ 24) : rd none (ints (mk50 f)) (w * 25 + n) = some (.int .i64 (f w n)) := by rw [rd_ints (by simp; omega), mk50_at h.1 h.2.1 h.2.2]
theorem sp48_0 {f : HF} {i : Nat} {x : Int} (h : i < 24) : splice (ints (mk48 f)) i [.int .i64 x] = ints (mk48 (fset f 0 (i + 1) x)) := by rw [splice_ints_one (by simp; omega), mk48_set0 h]
theorem sp48_1 {f : HF} {i : Nat} {x : Int} (h : i < 24) : splice (ints (mk48 f)) (24 + i) [.int .i64 x] = ints (mk48 (fset f 1 (i + 1) x)) := by rw [splice_ints_one (by simp; omega), mk48_set1 h]
theorem sp50_0 {f : HF} {n : Nat} {x : Int} (h : 1 ≤ n ∧ n ≤ 24) : splice (ints (mk50 f)) n [.int .i64 x] = ints (mk50 (fset f 0 n x)) := by rw [splice_ints_one (by simp; omega), mk50_set0 h]
theorem sp50_1 {f : HF} {n : Nat} {x : Int} (h : 1 ≤ n ∧ n ≤ 24) : splice (ints (mk50 f)) (25 + n) [.int .i64 x] = ints (mk50 (fset f 1 n x)) := by rw [splice_ints_one (by simp; omega), mk50_set1 h]
theorem sp50_at {f : HF} {w n : Nat} {x : Int} (h : w < 2 ∧ 1 ≤ n ∧ n ≤ 24) : splice (ints (mk50 f)) (w * 25 + n) [.int .i64 x] = ints (mk50 (fset f w n x)) := by rw [splice_ints_one (by simp; omega), mk50_set h.1 h.2.1 h.2.2]
theorem zs48 : zs 48 = mk48 (fun _ _ => 0) := by
  refine ext_getD (by simp) fun k hk => ?_
  rw [zs_getD, mk48, getD_map_range (by simpa using hk)]
theorem zs50 : zs 50 = mk50 (fun _ _ => 0) := by
  refine ext_getD (by simp) fun k hk => ?_
  rw [zs_getD, mk50, getD_map_range (by simpa using hk)]; simp

/-- the hairs of a bundle -/
def op (r w : List Int) : HF := fun way n => if errOf r w = 0 then (if way = 0 then r else w).getD (n - 1) 0 else 0
theorem opened_mk {r w : List Int} : opened r w = mk48 (op r w) := by
  refine ext_getD (by simp [opened_length]) fun k hk => ?_
  have hk : k < 48 := by rw [opened_length] at hk; exact hk
  by_cases he : errOf r w = 0
  · obtain ⟨l1, l2, _⟩ := errOf_zero he
    rw [opened_ok he, mk48, getD_map_range hk]
    simp only [op, he, if_true]
    by_cases h24 : k < 24
    · rw [sheafOf_right l1 h24, if_pos (by omega)]; congr 1; omega
    · obtain ⟨j, rfl⟩ : ∃ j, k = 24 + j := ⟨k - 24, by omega⟩
      rw [sheafOf_wrong l1, if_neg (by omega)]; congr 1; omega
  · rw [opened_err he, mk48, getD_map_range hk, zs_getD]
    simp [op, he]
theorem RefOf.eq50 {r w ys : List Int} (he : errOf r w = 0) (h : RefOf (sheafOf r w) ys) : ys = mk50 (op r w) := by
  obtain ⟨l1, l2, _⟩ := errOf_zero he
  refine ext_getD (by simp [h.len]) fun k hk => ?_
  have hk : k < 50 := by rw [h.len] at hk; exact hk
  rw [mk50, getD_map_range hk]
  by_cases e0 : k = 0
  · subst e0; simpa using h.zero.1
  by_cases e25 : k = 25
  · subst e25; simpa using h.zero.2
  rw [if_neg (by omega)]
  simp only [op, he, if_true]
  by_cases h24 : k < 25
  · obtain ⟨j, rfl⟩ : ∃ j, k = j + 1 := ⟨k - 1, by omega⟩
    rw [h.right j (by omega), sheafOf_right l1 (by omega), if_pos (by omega)]; congr 1; omega
  · obtain ⟨j, rfl⟩ : ∃ j, k = 26 + j := ⟨k - 26, by omega⟩
    rw [h.wrong j (by omega), sheafOf_wrong l1, if_neg (by omega)]; congr 1; omega
theorem op_bd {r w : List Int} (way n : Nat) : 0 ≤ op r w way n ∧ op r w way n ≤ 1000000 := by
  unfold op
  split
  case isFalse => omega
  rename_i he
  obtain ⟨_, _, n1, n2, b1, b2⟩ := errOf_zero he
  have key : ∀ l : List Int, anyNeg l = false → anyBig l = false → ∀ i, 0 ≤ l.getD i 0 ∧ l.getD i 0 ≤ 1000000 := by
    intro l hn hb i
    by_cases hi : i < l.length
    · have hm : l.getD i 0 ∈ l := by rw [List.getD_eq_getElem?_getD, List.getElem?_eq_getElem hi]; exact List.getElem_mem hi
      exact ⟨anyNeg_false hn _ hm, anyBig_false hb _ hm⟩
    · rw [getD_big (by omega)]; omega
  split
  · exact key r n1 b1 _
  · exact key w n2 b2 _

/-- the last place up to k at which f is not 0 (places from 1 on) -/
def lastN (f : Nat → Int) : Nat → Nat
  | 0 => 0
  | k + 1 => if f (k + 1) = 0 then lastN f k else k + 1
theorem lastN_le (f : Nat → Int) : ∀ k, lastN f k ≤ k
  | 0 => Nat.le_refl _
  | k + 1 => by
    simp only [lastN]
    split
    · exact Nat.le_succ_of_le (lastN_le f k)
    · exact Nat.le_refl _
def listN (f : Nat → Int) (n : Nat) : List Int := (List.range n).map fun i => f (i + 1)
theorem listN_succ (f : Nat → Int) (n : Nat) : listN f (n + 1) = listN f n ++ [f (n + 1)] := by
  simp [listN, List.range_succ]
@[simp] theorem listN_length (f : Nat → Int) (n : Nat) : (listN f n).length = n := by simp [listN]
/-- one way of lying, without the zeros at its end -/
def sideF (f : HF) (way : Nat) : List Int := listN (f way) (lastN (f way) 24)

end Go.Proofs.Ytnfhccioglpjhaa.Vm
