/- Package hair over the machine: the exported functions, first part. -/
import Derived.Test.YtgjlhdggllakbaaDoorHaD
namespace Go.Proofs.YtgjlhdggllakbaaDoor.Vm
open Go
set_option maxRecDepth 100000
set_option linter.unusedSimpArgs false
set_option linter.unusedVariables false
attribute [-simp] List.getD_eq_getElem?_getD

attribute [simp] splice11 splice22 splice20 splice21
theorem splice_zs48 {f : HF} : splice (ints (zs 48)) 0 (ints (mk48 f)) = ints (mk48 f) := splice_ints_all (by simp)
theorem splice_zs50 {f : HF} : splice (ints (zs 50)) 0 (ints (mk50 f)) = ints (mk50 f) := splice_ints_all (by simp)
theorem splice_48 {f g : HF} : splice (ints (mk48 g)) 0 (ints (mk48 f)) = ints (mk48 f) := splice_ints_all (by simp)
theorem splice_50 {f g : HF} : splice (ints (mk50 g)) 0 (ints (mk50 f)) = ints (mk50 f) := splice_ints_all (by simp)
attribute [simp] splice_zs48 splice_zs50 splice_48 splice_50
theorem rd48_all {f : HF} : rd (some 48) (ints (mk48 f)) 0 = some (.agg (ints (mk48 f))) := rd_ints_all (by simp)
theorem rd50_all {f : HF} : rd (some 50) (ints (mk50 f)) 0 = some (.agg (ints (mk50 f))) := rd_ints_all (by simp)
attribute [simp] rd48_all rd50_all
theorem rd48_lo {f : HF} : rd (some 24) (ints (mk48 f)) 0 = some (.agg ((ints (mk48 f)).take 24)) := by simp [rd]
theorem rd48_hi {f : HF} : rd (some 24) (ints (mk48 f)) 24 = some (.agg ((ints (mk48 f)).drop 24)) := by
  simp only [rd, ints_length, mk48_len]
  rw [if_pos (by omega), List.take_of_length_le (by simp)]

theorem mk50_step {f h : HF} {i : Nat} {x y : Int} (hx : x = h 0 (i + 1)) (hy : y = h 1 (i + 1)) : mk50 (fset (fset (fun w n => if n ≤ i then h w n else f w n) 0 (i + 1) x) 1 (i + 1) y) = mk50 (fun w n => if n ≤ i + 1 then h w n else f w n) := by
  subst hx; subst hy
  refine mk50_congr fun w n hw h1 h2 => ?_
  simp only [fset]
  grind
theorem half_splice {u : List Int} (hu : u.length = 24) : splice (ints (zs 48)) 0 (ints u) = ints (mk48 fun a n => if a = 0 then u.getD (n - 1) 0 else 0) := by
  rw [splice_ints]
  refine congrArg ints (ext_getD (by simp [hu]) fun k hk => ?_)
  have hk : k < 48 := by simpa [hu] using hk
  rw [mk48, getD_map_range hk, List.take_zero, List.nil_append]
  by_cases h : k < 24
  · rw [getD_app_left (by omega), if_pos (by omega)]; congr 1; omega
  · rw [getD_app_right (by omega), if_neg (by omega), List.getD_eq_getElem?_getD, List.getElem?_drop, ← List.getD_eq_getElem?_getD, zs_getD]
/-! errors of pairs, outcomes -/
def er2 (r w r' w' : List Int) : Int := if errOf r w = 0 then errOf r' w' else errOf r w
abbrev Out := List Int × List Int × Int
def outP (f : HF) : Out := (outR f, outW f, outE f)
def errP (e : Int) : Out := ([], [], e)
/-- hairs that are taken together -/
def addF (f g : HF) : HF := fun w n => f w n + g w n
def trimP (r w : List Int) : Out := if errOf r w = 0 then outP (op r w) else errP (errOf r w)
def mixP (r w r' w' : List Int) : Out := if er2 r w r' w' = 0 then outP (addF (op r w) (op r' w')) else errP (er2 r w r' w')
def turnF (f : HF) : HF := fun w n => if w = 0 then f 0 n + f 1 n else 0
def turnP (r w : List Int) : Out := if errOf r w = 0 then outP (turnF (op r w)) else errP (errOf r w)

theorem bigN_small {f : HF} (hf : ∀ w n, f w n ≤ 1000000) : ∀ k, bigN f k = false
  | 0 => rfl
  | k + 1 => by
    have a := hf 0 (k + 1)
    have b := hf 1 (k + 1)
    simp only [bigN, bigN_small hf k, Bool.false_or]
    rw [decide_eq_false (by omega), decide_eq_false (by omega)]; rfl
theorem outP_small {f : HF} (hf : ∀ w n, f w n ≤ 1000000) : outP f = (sideF f 0, sideF f 1, 0) := by
  simp [outP, outR, outW, outE, bigN_small hf]
theorem op_bd' {r w : List Int} (way n : Nat) : 0 ≤ op r w way n ∧ op r w way n ≤ 1000000000 := by
  have := op_bd (r := r) (w := w) way n; omega

section
variable {lim : Nat} {H : Hp} {av bv : V} {r w r' w' : List Int} {K : V → Hp → Prop}

theorem hair_open2 (hb : BunV H r w bv) (hlim : lim ≤ H.length) (hE : errOf r w ≠ 0 → ∀ H', HX H H' → K (.tup [.agg (ints (zs 48)), .int .i64 (errOf r w)]) H')
    (hO : errOf r w = 0 → ∀ H', HX H H' → K (.tup [.agg (ints (mk48 (op r w))), .int .i64 0]) H') : VCall tbl lim 22 [bv] H K := by
  refine hair_open hb hlim fun H' x => ?_
  by_cases he : errOf r w = 0
  · have := hO he H' x
    rwa [opened_mk, he]
  · rw [opened_err he]; exact hE he H' x

theorem hair_openBoth (ha : BunV H r w av) (hb : BunV H r' w' bv) (hlim : lim ≤ H.length) (hE : er2 r w r' w' ≠ 0 → ∀ H', HX H H' → K (.tup [.agg (ints (zs 48)), .agg (ints (zs 48)), .int .i64 (er2 r w r' w')]) H')
    (hO : er2 r w r' w' = 0 → ∀ H', HX H H' → K (.tup [.agg (ints (mk48 (op r w))), .agg (ints (mk48 (op r' w'))), .int .i64 0]) H') : VCall tbl lim 32 [av, bv] H K := by
  refine VCall_fn tbl_at32 rfl ?_
  simp [vf32, ha.stor.1, hb.stor.1, ha.stor.2, hb.stor.2, ha.load, hb.load]
  refine hair_open2 ha hlim (fun he H1 x1 => ?_) fun he H1 x1 => ?_
  · have e : er2 r w r' w' = errOf r w := by simp [er2, he]
    simp [he]
    have := hE (by rw [e]; exact he) H1 x1
    rw [e] at this; exact this
  · have e : er2 r w r' w' = errOf r' w' := by simp [er2, he]
    simp [hb.stor.1, hb.load]
    refine hair_open2 (hb.mono x1) (Nat.le_trans hlim x1.len) (fun he' H2 x2 => ?_) fun he' H2 x2 => ?_
    · simp [he']
      have := hE (by rw [e]; exact he') H2 (x1.trans x2)
      rw [e] at this; exact this
    · simp
      exact hO (by rw [e]; exact he') H2 (x1.trans x2)

theorem ref01_open2 (hb : BunV H r w bv) (he : errOf r w = 0) (hK : K (.agg (ints (mk50 (op r w)))) H) : VCall tbl lim 44 [bv] H K := by
  obtain ⟨l1, l2, _⟩ := errOf_zero he
  refine ref01_open hb l1 l2 fun ys hy => ?_
  rw [hy.eq50 he]; exact hK

theorem hair_Trim (hb : BunV H r w bv) (hlim : lim ≤ H.length) (hK : ∀ H' v, HX H H' → OwnB H.length H' (trimP r w).1 (trimP r w).2.1 v → K (.tup [v, .int .i64 (trimP r w).2.2]) H') : VCall tbl lim 28 [bv] H K := by
  refine VCall_fn tbl_at28 rfl ?_
  simp [vf28, hb.stor.1, hb.load]
  refine hair_open2 hb hlim (fun he H1 x1 => ?_) fun he H1 x1 => ?_
  · have := hK H1 (.agg [.snil, .snil]) x1 (by simp [trimP, he, errP]; exact .zero)
    simp [he]
    simpa [trimP, he, errP] using this
  · simp
    refine hair_bundle (Nat.le_trans hlim x1.len) fun H2 v x2 o2 => ?_
    obtain ⟨o1, o2⟩ := o2
    simp [o1.sl.stor, o2.sl.stor, o1.sl.one, o2.sl.one]
    have := hK H2 _ (x1.trans x2) (by simp [trimP, he, outP]; exact OwnB.mk (o1.le x1.len) (o2.le x1.len))
    simpa [trimP, he, outP] using this

theorem ref01_Trim (hb : BunV H r w bv) (hlim : lim ≤ H.length) (hK : ∀ H' v, HX H H' → OwnB H.length H' (trimP r w).1 (trimP r w).2.1 v → K (.tup [v, .int .i64 (trimP r w).2.2]) H') : VCall tbl lim 25 [bv] H K := by
  refine VCall_fn tbl_at25 rfl ?_
  simp [vf25, hb.stor.1, hb.load]
  refine ref01_Validate hb ?_
  simp
  refine cond_ndec (fun he => ?_) fun he => ?_
  · have := hK H (.agg [.snil, .snil]) .refl (by simp [trimP, he, errP]; exact .zero)
    simp
    simpa [trimP, he, errP] using this
  · simp [hb.stor.1, hb.load]
    refine ref01_open2 hb he ?_
    simp
    refine ref01_tie (by first | exact hlim | exact Nat.le_refl _) fun H2 v x2 o2 => ?_
    obtain ⟨o1, o2⟩ := o2
    simp [o1.sl.stor, o2.sl.stor, o1.sl.one, o2.sl.one]
    have e := outP_small (f := op r w) fun a b => (op_bd a b).2
    have := hK H2 _ x2 (by simp [trimP, he, e]; exact OwnB.mk o1 o2)
    simpa [trimP, he, e] using this

theorem BunV.right {rv : V} {r : List Int} (h : SlV H rv r) : BunV H r [] (.agg [rv, .snil]) := .mk h .nil

/-! drawing, hackling -/
abbrev Out2 := List Int × List Int × List Int × List Int × Int
def cntF (f : HF) : Int := abv f 24
def part2 (f g : HF) : Out2 := (sideF f 0, sideF f 1, sideF g 0, sideF g 1, 0)
def errQ (e : Int) : Out2 := ([], [], [], [], e)
def subF (f g : HF) : HF := fun w n => f w n - g w n
def drawP (r w : List Int) (n : Int) : Out2 := if errOf r w = 0 then if n < 0 then errQ 1 else if cntF (op r w) < n then errQ 6 else part2 (drw (op r w) n) (subF (op r w) (drw (op r w) n)) else errQ (errOf r w)

theorem restN_mk {f : HF} : ∀ {k : Nat}, k ≤ 24 → restN (mk48 f) k = abv f k
  | 0, _ => rfl
  | k + 1, h => by
    have e1 : 47 - k = 24 + (23 - k) := by omega
    have e2 : 23 - k + 1 = 24 - k := by omega
    simp only [restN, abv, restN_mk (k := k) (by omega)]
    rw [mk48_0 (by omega), e1, mk48_1 (by omega), e2]; omega
/-- how many lengths are at least so long -/
def kA (l : Int) : Nat := 24 - (max l 1 - 1).toNat
theorem kA_le {l : Int} : kA l ≤ 24 := by simp only [kA]; omega
theorem kA_at {l : Int} (h : 1 ≤ l ∧ l ≤ 25) : (kA l : Int) = 25 - l := by simp only [kA]; omega
@[simp] theorem kA_0 : kA 0 = 24 := rfl
@[simp] theorem kA_1 : kA 1 = 24 := rfl
theorem aboveS_mk {f : HF} {n : Int} : aboveS (mk48 f) n = abv f (kA n) := restN_mk (by omega)
theorem small_mk {f : HF} (hf : ∀ w n, 0 ≤ f w n ∧ f w n ≤ 1000000000) : Small (mk48 f) := by
  intro x hx
  obtain ⟨k, hk, rfl⟩ := List.mem_map.1 hx
  have := hf (k / 24) (k % 24 + 1)
  omega
theorem RefOf_mk {f : HF} : RefOf (mk48 f) (mk50 f) := by
  refine ⟨by simp, fun i hi => ?_, fun i hi => ?_, ?_, ?_⟩
  · rw [mk48_0 hi, mk50_0 (by omega)]
  · rw [mk48_1 hi, show 26 + i = 25 + (i + 1) by omega, mk50_1 (by omega)]
  · rw [mk50, getD_map_range (by omega)]; rfl
  · rw [mk50, getD_map_range (by omega)]; rfl
theorem sheaf_above2 {f : HF} (hf : ∀ w n, 0 ≤ f w n ∧ f w n ≤ 1000000000) {n : Int} (hn : I64 n) (hK : K (.int .i64 (abv f (kA n))) H) : VCall tbl lim 62 [.agg (ints (mk48 f)), .int .i64 n] H K := by
  refine sheaf_above (by simp) (small_mk hf) hn ?_
  rw [aboveS_mk]; exact hK
theorem sheaf_count2 {f : HF} (hf : ∀ w n, 0 ≤ f w n ∧ f w n ≤ 1000000000) (hK : K (.int .i64 (cntF f)) H) : VCall tbl lim 39 [.agg (ints (mk48 f))] H K := by
  refine sheaf_count (by simp) (small_mk hf) ?_
  rw [aboveS_mk]; exact hK
theorem drw_bd {f : HF} (hf : ∀ w n, 0 ≤ f w n ∧ f w n ≤ 1000000) {n : Int} (w L : Nat) : 0 ≤ drw f n w L ∧ drw f n w L ≤ f w L := by
  have b0 := hf 0 L
  have bw := hf w L
  simp only [drw]
  split
  · rename_i h; subst h; omega
  · omega
theorem subF_bd {f g : HF} (h : ∀ w L, 0 ≤ g w L ∧ g w L ≤ f w L) (hf : ∀ w n, 0 ≤ f w n ∧ f w n ≤ 1000000) (w L : Nat) : 0 ≤ subF f g w L ∧ subF f g w L ≤ 1000000 := by
  have a := h w L
  have b := hf w L
  simp only [subF]; omega
theorem cntF_op : 0 ≤ cntF (op r w) ∧ cntF (op r w) ≤ 48000000000 := by
  have := abv_nonneg (f := op r w) op_bd' 24
  simp only [cntF]; omega

end
end Go.Proofs.YtgjlhdggllakbaaDoor.Vm
