/- Package plot over the machine: Plan. -/
import Derived.Test.YtdipmhdekjlifaaPlN
namespace Go.Proofs.Ytdipmhdekjlifaa.Vm
open Go
set_option maxRecDepth 100000
set_option linter.unusedSimpArgs false
set_option linter.unusedVariables false
attribute [-simp] List.getD_eq_getElem?_getD
/-- what Plan returns -/
def planR (S : List Int) (J : List Jb) (ok : Bool) (Q : List Slt) : Prop :=
  (valJ S J ≠ 0 ∧ ok = false ∧ Q = []) ∨ (valJ S J = 0 ∧ proofO S J ≠ none ∧ ok = false ∧ Q = []) ∨
  (valJ S J = 0 ∧ proofO S J = none ∧ ok = true ∧ planP S J Q = 0 ∧ Q.Pairwise ltQ ∧ Q.length ≤ 480 ∧ ∀ i, i < Q.length → (Q.getD i default).in64)
def doneB (S : List Int) (J : List Jb) (o : List Nat) (i : Nat) : Bool := decide (¬ 0 < wkD S J o S.length i)
def idL (n : Nat) : List Int := (List.range n).map Int.ofNat
theorem idL_succ {n : Nat} : idL (n + 1) = idL n ++ [(n : Int)] := by simp [idL, List.range_succ]
def fnL (f : Nat → Int) (n : Nat) : List Int := (List.range n).map f
theorem fnL_succ {f : Nat → Int} {n : Nat} : fnL f (n + 1) = fnL f n ++ [f n] := by simp [fnL, List.range_succ]
theorem idL_len {n : Nat} : (idL n).length = n := by simp [idL]
theorem fnL_len {f : Nat → Int} {n : Nat} : (fnL f n).length = n := by simp [fnL]
theorem fnL_get {f : Nat → Int} {n k : Nat} (h : k < n) : (fnL f n).getD k 0 = f k := by rw [fnL, getD_map_range h]
theorem fnL_set {f : Nat → Int} {n k : Nat} {x : Int} (h : k < n) : (fnL f n).set k x = fnL (fun c => if c = k then x else f c) n := by rw [fnL, map_range_set h]; rfl
theorem fnL_z {n : Nat} : zs n = fnL (fun _ => 0) n := by
  refine ext_getD (by simp [fnL]) fun k hk => ?_
  rw [zs_getD, fnL_get (by simpa using hk)]
section
variable {lim : Nat} {H : Hp} {K : V → Hp → Prop} {sv jv qv : V} {S : List Int} {J : List Jb} {x y : Int}
theorem plot_Plan (hs : SlV H sv S) (hj : LstV jbC H jv J) (hlim : lim ≤ H.length) (hK : ∀ H' v ok Q, HX H H' → LstV slC H' v Q → planR S J ok Q → K (.tup [v, .bool ok, .int .i64 (valJ S J)]) H') : VCall tbl lim 49 [sv, jv] H K := by
  refine VCall_fn tbl_at49 rfl ?_
  have hB0 : (H ++ [Blk.row [jv] true])[H.length]? = some (.row [jv] true) := List.getElem?_concat_length
  simp [vf49, hj.stor, hs.stor, hj.one, hB0, rd1]
  generalize hHB : H ++ [Blk.row [jv] true] = HB at *
  have xB : HX H HB := by rw [← hHB]; exact HX.push
  have lB : HB.length = H.length + 1 := by rw [← hHB]; simp
  have hsB := hs.mono xB
  have hjB := hj.mono xB
  refine plot_ValidateJobs hsB hjB ?_
  by_cases hval : valJ S J = 0
  case neg =>
    have := hK HB .snil false [] xB .nil (Or.inl ⟨hval, rfl, rfl⟩)
    simp [hval]; exact this
  obtain ⟨g1, g2, g3, g4⟩ := valJ_ok hval
  simp [hval, hB0, rd1, hj.len]
  have hjlt : ∀ b o n z, jv = .sl b o n z → b < H.length := hj.below
  refine wLoop_up J.length (fun i fr L H' => ∃ u8 u9, (fr 0 = sv ∧ fr 3 = .ptr H.length 0 ∧ fr 28 = jv ∧ fr 29 = .int .i64 J.length ∧ fr 30 = .int .i64 i ∧ fr 8 = u8 ∧ fr 9 = u9) ∧ HX HB H' ∧ OwnV HB.length H' u8 (idL i) ∧ OwnV HB.length H' u9 (fnL (fun k => (J.getD k default).w) i) ∧ Apart u8 u9) ⟨.snil, .snil, by simp [hj.len], HX.refl, .nil, .nil, fun b o z y b' o' z' y' h => by cases h⟩ ?_
  rintro i hi fr L H1 ⟨u8, u9, ⟨f0, f3, f28, f29, f30, f8, f9⟩, x1, o8, o9, hap⟩
  have l1 := x1.len
  have hj1 := hjB.mono x1
  simp [f0, f3, f28, f29, f30, f8, f9]
  refine cond_dec (fun ht => ?_) fun hfl => ?_
  · have ht : i < J.length := by omega
    have a8 := o8.append (lim := lim) (x := (i : Int)) ⟨by omega, by rw [idL_len]; omega⟩
    have p8 := o8.ap l1 (x := (i : Int)) (new := [.int .i64 (i : Int)])
    have xx8 := o8.apX x1 (Nat.le_refl _) (new := [.int .i64 (i : Int)]) (all := ints (idL i ++ [(i : Int)]))
    have ll8 := apH_len o8 (new := [.int .i64 (i : Int)]) (all := ints (idL i ++ [(i : Int)]))
    have b9 := o9.below
    have k9 : OwnV HB.length (apH H1 u8 [.int .i64 (i : Int)] (ints (idL i ++ [(i : Int)]))) u9 (fnL (fun k => (J.getD k default).w) i) := o9.keepB fun b o m z e => apH_oth o8 (b9 b o m z e) fun o' z' y' e' => hap _ _ _ _ _ _ _ _ e' e rfl
    generalize hH2 : apH H1 u8 [.int .i64 (i : Int)] (ints (idL i ++ [(i : Int)])) = H2 at *
    have hl2 : HB.length ≤ H2.length := by omega
    have a9 := k9.append (lim := lim) (x := (J.getD i default).w) ⟨by omega, by rw [fnL_len]; omega⟩
    have p9 := k9.ap hl2 (x := (J.getD i default).w) (new := [.int .i64 (J.getD i default).w])
    have xx9 := k9.apX xx8 (Nat.le_refl _) (new := [.int .i64 (J.getD i default).w]) (all := ints (fnL (fun k => (J.getD k default).w) i ++ [(J.getD i default).w]))
    have k8 : OwnV HB.length (apH H2 u9 [.int .i64 (J.getD i default).w] (ints (fnL (fun k => (J.getD k default).w) i ++ [(J.getD i default).w]))) (.sl (H1.length + 1) 0 ((idL i).length + 1) 1) (idL i ++ [(i : Int)]) :=
      p8.keepB fun b o m z e => by
        cases e
        refine apH_oth k9 (by omega) fun o' z' y' e' => ?_
        have := b9 _ _ _ _ e'
        omega
    rw [idL_len] at a8 k8
    rw [fnL_len] at a9 p9
    simp (disch := omega) [f0, f3, f28, f29, f30, f8, f9, hj.at ht, jb_load hj1, lastO, lastS, iz3, splice33, vbslice_some, splice, idL_len, fnL_len, a8, a9, wrap_i64]
    refine ⟨by omega, _, _, ⟨rfl, rfl⟩, xx9, ?_, ?_, ?_⟩
    · rw [idL_succ]; exact k8
    · rw [fnL_succ]; exact p9
    · intro b o z y b' o' z' y' e1 e2
      cases e1; cases e2; omega
  have : i = J.length := by omega
  subst this
  have b8 := o8.below
  have b9 := o9.below
  have hB1 : H1[H.length]? = some (.row [jv] true) := x1.get hB0
  have e8 : ∀ b o z y, u8 = .sl b o z y → HB.length ≤ b := by
    rintro b o z y rfl
    cases o8 with
    | row h1 _ => exact h1
  have e9 : ∀ b o z y, u9 = .sl b o z y → HB.length ≤ b := by
    rintro b o z y rfl
    cases o9 with
    | row h1 _ => exact h1
  simp [f3, f8, o8.sl.stor]
  refine sort_own o8 (by omega) ⟨rfl, rfl⟩ (fun b o z y e => plan_cmp (J := J) hB1 (by have := e8 _ _ _ _ e; omega) (fun b0 o0 k0 z0 e0 => by have := e8 _ _ _ _ e; have := hjlt _ _ _ _ e0; omega) hj1 (fun x hx => ?_)) (ordr_of fun x : Int => (J.getD x.toNat default).d) (by rw [idL_len]; omega) fun l' H5 hp hso o8' hsame hl5 => ?_
  · simp only [idL, List.mem_map, List.mem_range] at hx
    obtain ⟨k, h1, rfl⟩ := hx
    show 0 ≤ (k : Int) ∧ (k : Int) < J.length
    omega
  rw [idL_len] at hp hso
  obtain ⟨ho, hlo, hll⟩ := ordJ_of hp hso
  generalize hoo : l'.map Int.toNat = o at *
  subst hlo
  have hol : o.length = J.length := by simpa using hll
  have o9' : OwnV HB.length H5 u9 (fnL (wkD S J o 0) J.length) := o9.keepB fun b o m z e => hsame b fun o' z' y' e' => hap _ _ _ _ _ _ _ _ e' e rfl
  have x5 : HX HB H5 := HX.of (by omega) fun b hb => by
    rw [hsame b fun o' z' y' e' => by have := e8 _ _ _ _ e'; omega, x1.same hb]
  clear o8 o9
  simp [f0, hs.len]
  refine wLoop_up S.length (fun d fr L H' => ∃ u12, (fr 3 = .ptr H.length 0 ∧ fr 8 = u8 ∧ fr 9 = u9 ∧ fr 12 = u12 ∧ fr 48 = sv ∧ fr 49 = .int .i64 S.length ∧ fr 50 = .int .i64 d) ∧ HX HB H' ∧ OwnV HB.length H' u8 (o.map Int.ofNat) ∧ OwnV HB.length H' u9 (fnL (wkD S J o d) J.length) ∧ OwnT H5.length slC H' u12 (planL (mtD S J o) d) ∧ H5.length ≤ H'.length) ⟨.snil, by simp [f3, f8, f9, hs.len], x5, o8', o9', .nil, Nat.le_refl _⟩ ?_
  clear f0 f3 f28 f29 f30 f8 f9
  rintro d hd fr L1 H6 ⟨u12, ⟨f3, f8, f9, f12, f48, f49, f50⟩, x6, o8, o9, o12, l6⟩
  simp [f3, f8, f9, f12, f48, f49, f50]
  refine cond_dec (fun ht => ?_) fun hfl => ?_
  · have ht : d < S.length := by omega
    have hs6 := hsB.mono x6
    have a1 := hs.addr (i := d) (by omega)
    simp only [Int.toNat_natCast] at a1
    simp (disch := omega) [f3, f8, f9, f12, f48, f49, f50, a1, hs6.load, lpId_ept, o8.sl.len]
    refine wLoop_up o.length (fun t fr L H' => (fr 3 = .ptr H.length 0 ∧ fr 8 = u8 ∧ fr 9 = u9 ∧ fr 12 = u12 ∧ fr 48 = sv ∧ fr 49 = .int .i64 S.length ∧ fr 50 = .int .i64 d ∧ fr 13 = .int .i64 d ∧ fr 14 = .int .i64 (dayP S J o d t).left ∧ fr 15 = .lp L1.length 0 ∧ fr 55 = u8 ∧ fr 56 = .int .i64 o.length ∧ fr 57 = .int .i64 t) ∧ L[L1.length]? = some (ints (fnL (dayP S J o d t).m 8)) ∧ HX HB H' ∧ OwnV HB.length H' u8 (o.map Int.ofNat) ∧ OwnV HB.length H' u9 (fnL (dayP S J o d t).w J.length) ∧ OwnT H5.length slC H' u12 (planL (mtD S J o) d) ∧ H5.length ≤ H'.length) ⟨by simp [f3, f8, f9, f12, f48, f49, f50, o8.sl.len]; simp [dayP, dayF], ?_, x6, o8, ?_, o12, l6⟩ ?_
    · rw [fnL_z]; simp [dayP, dayF]
    · simpa [dayP, dayF] using o9
    clear f3 f8 f9 f12 f48 f49 f50 o8 o9 o12 x6 hs6 l6 H6 fr
    rintro t ht1 fr L H6 ⟨⟨f3, f8, f9, f12, f48, f49, f50, f13, f14, f15, f55, f56, f57⟩, lq, x6, o8, o9, o12, l6⟩
    have hj6 := hjB.mono x6
    have hB6 : H6[H.length]? = some (.row [jv] true) := x6.get hB0
    have hvB : ∀ L, vload none L H6 (.ptr H.length 0) = some jv := fun L => by rw [vload_ptr hB6, rd1]
    have lqn := (List.getElem?_eq_some_iff.1 lq).1
    have hI := dayP_I hval ho ht ht1
    simp [f3, f8, f9, f12, f48, f49, f50, f13, f14, f15, f55, f56, f57]
    refine cond_dec (fun ht2 => ?_) fun hfl2 => ?_
    · have ht2 : t < o.length := by omega
      have ha8 := o8.sl.addr (i := t) (by simp; omega)
      simp only [Int.toNat_natCast] at ha8
      have hg8 : (o.map Int.ofNat).getD t 0 = ((o.getD t default : Nat) : Int) := by
        simp only [List.getD_eq_getElem?_getD, List.getElem?_map, List.getElem?_eq_getElem ht2, Option.map_some, Option.getD_some]; rfl
      have hld8 := fun L => o8.sl.load (i := t) (by simp; omega) (L := L)
      rw [hg8] at hld8
      have hsucc := dayP_succ (S := S) (J := J) (d := d) ht2
      have hi : o.getD t default < J.length := by
        rw [← ho.mem, getD_of ht2]; exact List.getElem_mem _
      generalize o.getD t default = i at *
      have hi8 : i < 8 := by omega
      have fj : ∀ i, i < J.length → ∀ j, vfaddr j (ept 3 jv i) = some (eptf 3 jv i j) := fun i hi j => hj.faddr hi
      have gi := g4 i hi
      have hleft := hI.left
      have hsum := hI.sum
      have hm0 := hI.m0 i
      have hw0 := hI.wn i
      have hle1 : (dayP S J o d t).left ≤ 1440 := by
        have : 0 ≤ sumN (dayP S J o d t).m J.length := by
          have := sumN_le (f := fun _ => 0) (g := (dayP S J o d t).m) (n := J.length) fun k _ => hI.m0 k
          rw [sumN_zero] at this; exact this
        have := (g3 d ht).2
        omega
      have hle2 : (dayP S J o d t).w i ≤ 20000 := by
        have h1 := hI.eq i
        have h2 := wk_mono hval ho (i := i) (a := 0) (b := d) (by omega) (by omega)
        have h3 : wkD S J o 0 i = (J.getD i default).w := rfl
        omega
      generalize hDP : dayP S J o d t = s at *
      by_cases hav : avB J d i = true
      · have hav' := hav
        simp only [avB, Bool.and_eq_true, decide_eq_true_eq] at hav'
        simp only [stepJ, hav, if_true] at hsucc
        have ha9 := o9.sl.addr (i := i) (by rw [fnL_len]; omega)
        simp only [Int.toNat_natCast] at ha9
        have hld9 := fun L => o9.sl.load (i := i) (by rw [fnL_len]; omega) (L := L)
        rw [fnL_get hi] at hld9
        have hst9 := fun L => o9.store (lim := lim) (i := i) (x := s.w i - min s.left (s.w i)) (L := L) ⟨by omega, by rw [fnL_len]; omega⟩
        rw [fnL_set hi] at hst9
        have hp9 := o9.put (l' := fnL (fun c => if c = i then s.w i - min s.left (s.w i) else s.w c) J.length) (by rw [fnL_len, fnL_len])
        have hvs : vstore lim L H6 (.lp L1.length i) (.int .i64 (min s.left (s.w i))) 1 = some (L.set L1.length (ints (fnL (fun c => if c = i then min s.left (s.w i) else s.m c) 8)), H6) := by
          rw [vstore_lp_int lq (by rw [fnL_len]; omega), fnL_set hi8]
        have hlq2 : (L.set L1.length (ints (fnL (fun c => if c = i then min s.left (s.w i) else s.m c) 8)))[L1.length]? = some (ints (fnL (fun c => if c = i then min s.left (s.w i) else s.m c) 8)) := by simp [lqn]
        have hrd2 : (fnL (fun c => if c = i then min s.left (s.w i) else s.m c) 8).getD i 0 = min s.left (s.w i) := by rw [fnL_get hi8, if_pos rfl]
        have hX9 := setH_X (cs := ints (fnL (fun c => if c = i then s.w i - min s.left (s.w i) else s.w c) J.length)) x6 o9 (Nat.le_refl _)
        have hk8 : OwnV HB.length (setH H6 u9 (ints (fnL (fun c => if c = i then s.w i - min s.left (s.w i) else s.w c) J.length))) u8 (o.map Int.ofNat) := o8.keepB fun b o m z e => setH_othB o9 fun o' z' y' e' => hap _ _ _ _ _ _ _ _ e e' rfl
        have hk12 : OwnT H5.length slC (setH H6 u9 (ints (fnL (fun c => if c = i then s.w i - min s.left (s.w i) else s.w c) J.length))) u12 (planL (mtD S J o) d) := o12.keep fun b hb => setH_othB o9 fun o' z' y' e' => by have := b9 _ _ _ _ e'; omega
        have hl9 := setH_len (cs := ints (fnL (fun c => if c = i then s.w i - min s.left (s.w i) else s.w c) J.length)) o9
        have emin : min s.left (s.w i) ≤ s.left ∧ min s.left (s.w i) ≤ s.w i ∧ 0 ≤ min s.left (s.w i) := by omega
        have hrdx : rd none (ints (fnL (fun c => if c = i then min s.left (s.w i) else s.m c) 8)) i = some (.int .i64 (min s.left (s.w i))) := by rw [rd_ints (by rw [fnL_len]; omega), hrd2]
        clear lqn
        rw [hsucc]
        simp (disch := omega) [f3, f8, f9, f12, f48, f49, f50, f13, f14, f15, f55, f56, f57, ha8, hld8, lpId_ept, hvB, hj.at hi, fj i hi, jb_get hj6, lpId_eptf, hav'.1, hav'.2, ha9, hld9, hst9, hvs, hlq2, hrdx, wrap_i64, -vstore, -vload_ptrO]
        exact ⟨by omega, hX9, hk8, hp9, hk12, by omega⟩
      · have hav' : ¬ ((J.getD i default).r ≤ d ∧ (d : Int) ≤ (J.getD i default).d) := by simpa [avB] using hav
        simp only [stepJ, hav, if_false, Bool.false_eq_true] at hsucc
        rw [hsucc]
        clear lqn
        by_cases hr : (J.getD i default).r ≤ d
        · have hr2 : ¬ (d : Int) ≤ (J.getD i default).d := fun h => hav' ⟨hr, h⟩
          simp (disch := omega) [f3, f8, f9, f12, f48, f49, f50, f13, f14, f15, f55, f56, f57, ha8, hld8, lpId_ept, hvB, hj.at hi, fj i hi, jb_get hj6, lpId_eptf, hr, hr2, wrap_i64, lq, -vload_ptrO]
          exact ⟨by omega, x6, o8, o9, o12, l6⟩
        · simp (disch := omega) [f3, f8, f9, f12, f48, f49, f50, f13, f14, f15, f55, f56, f57, ha8, hld8, lpId_ept, hvB, hj.at hi, fj i hi, jb_get hj6, lpId_eptf, hr, wrap_i64, lq, -vload_ptrO]
          exact ⟨by omega, x6, o8, o9, o12, l6⟩
    have : t = o.length := by omega
    subst this
    rw [dayP_all] at lq o9
    have o9 : OwnV HB.length H6 u9 (fnL (wkD S J o (d + 1)) J.length) := o9
    have lq : L[L1.length]? = some (ints (fnL (mtD S J o d) 8)) := lq
    simp [f15, lq, fnL_len]
    refine wLoop_up 8 (fun k fr L H' => ∃ u12, (fr 3 = .ptr H.length 0 ∧ fr 8 = u8 ∧ fr 9 = u9 ∧ fr 12 = u12 ∧ fr 48 = sv ∧ fr 49 = .int .i64 S.length ∧ fr 50 = .int .i64 d ∧ fr 13 = .int .i64 d ∧ fr 100 = .agg (ints (fnL (mtD S J o d) 8)) ∧ fr 101 = .int .i64 k) ∧ HX HB H' ∧ OwnV HB.length H' u8 (o.map Int.ofNat) ∧ OwnV HB.length H' u9 (fnL (wkD S J o (d + 1)) J.length) ∧ OwnT H5.length slC H' u12 (planL (mtD S J o) d ++ planI (mtD S J o) d k) ∧ H5.length ≤ H'.length) ⟨u12, by simp [f3, f8, f9, f12, f48, f49, f50, f13], x6, o8, o9, by simpa [planI] using o12, l6⟩ ?_
    clear f3 f8 f9 f12 f48 f49 f50 f13 f14 f15 f55 f56 f57 o8 o9 o12 x6 l6 hj6 hB6 hvB u12
    rintro k hk fr L2 H7 ⟨u12, ⟨f3, f8, f9, f12, f48, f49, f50, f13, f100, f101⟩, x7, o8, o9, o12, l7⟩
    simp [f3, f8, f9, f12, f48, f49, f50, f13, f100, f101]
    refine cond_dec (fun ht3 => ?_) fun hfl3 => ?_
    · have ht3 : k < 8 := by omega
      have hmk := mt_le hval ho ht k
      have hmn := mt_nn hval ho ht k
      have hrdk : rd none (ints (fnL (mtD S J o d) 8)) k = some (.int .i64 (mtD S J o d k)) := by rw [rd_ints (by rw [fnL_len]; omega), fnL_get ht3]
      have hpl := planL_len (M := mtD S J o) (n := d)
      have hpi := planI_len (M := mtD S J o) (d := d) (k := k)
      have e2 := planI_succ (M := mtD S J o) (d := d) (k := k)
      simp (disch := omega) [f3, f8, f9, f12, f48, f49, f50, f13, f100, f101, hrdk]
      refine cond_dec (fun hc => ?_) fun hc => ?_
      · rw [if_pos hc] at e2
        obtain ⟨v', H8, a1, a2, a3, a4, a5, a6⟩ := o12.append (lim := lim) (bytes := 24) (x := ⟨(d : Int), (k : Int), mtD S J o d k⟩) (cs := [.int .i64 (d : Int), .int .i64 (k : Int), .int .i64 (mtD S J o d k)]) rfl ⟨by omega, l7⟩ (by omega) (by rw [List.length_append]; omega)
        have hk8 : OwnV HB.length H8 u8 (o.map Int.ofNat) := o8.keepB fun b o m z e => a6 b (by have := b8 _ _ _ _ e; omega) fun o' z' y' e' => by
          subst e'
          cases o12 with
          | row h1 _ => have := b8 _ _ _ _ e; omega
        have hk9 : OwnV HB.length H8 u9 (fnL (wkD S J o (d + 1)) J.length) := o9.keepB fun b o m z e => a6 b (by have := b9 _ _ _ _ e; omega) fun o' z' y' e' => by
          subst e'
          cases o12 with
          | row h1 _ => have := b9 _ _ _ _ e; omega
        simp (disch := omega) [f3, f8, f9, f12, f48, f49, f50, f13, f100, f101, iz3, splice, a1, wrap_i64, e2]
        refine ⟨by omega, a3 _ x7 (by omega), hk8, hk9, ?_, by omega⟩
        simpa using a2
      · rw [if_neg hc] at e2
        simp (disch := omega) [f3, f8, f9, f12, f48, f49, f50, f13, f100, f101, wrap_i64, e2]
        exact ⟨by omega, x7, o8, o9, o12, l7⟩
    · have : k = 8 := by omega
      subst this
      simp (disch := omega) [f3, f8, f9, f12, f48, f49, f50, f13, f100, f101, wrap_i64, planL_succ]
      exact ⟨by omega, x7, o8, o9, o12, l7⟩
  have : d = S.length := by omega
  subst this
  simp [f9, f12, o9.sl.len, fnL_len]
  refine wLoop_up J.length (fun i fr L H' => (fr 12 = u12 ∧ fr 116 = u9 ∧ fr 117 = .int .i64 J.length ∧ fr 118 = .int .i64 i) ∧ H' = H6 ∧ allN (doneB S J o) i = true) ⟨by simp [f9, f12, o9.sl.len, fnL_len], rfl, rfl⟩ ?_
  clear f3 f8 f9 f12 f48 f49 f50
  rintro i hi fr L H7 ⟨⟨f12, f116, f117, f118⟩, e0, hz⟩
  have e0 := e0.symm
  subst e0
  simp [f12, f116, f117, f118]
  refine cond_dec (fun ht => ?_) fun hfl => ?_
  · have ht : i < J.length := by omega
    have ha9 := o9.sl.addr (i := i) (by rw [fnL_len]; omega)
    simp only [Int.toNat_natCast] at ha9
    have hld9 := fun L => o9.sl.load (i := i) (by rw [fnL_len]; omega) (L := L)
    rw [fnL_get ht] at hld9
    simp (disch := omega) [f12, f116, f117, f118, ha9, hld9, lpId_ept]
    refine cond_dec (fun hc => ?_) fun hc => ?_
    · have hno : proofO S J ≠ none := fun h => by
        have := (plan_iff hval ho).2 h i ht
        omega
      have := hK H6 .snil false [] (xB.trans x6) .nil (Or.inr (Or.inl ⟨hval, hno, rfl, rfl⟩))
      rw [hval] at this
      simp; exact this
    · have hdb : doneB S J o i = true := by simp only [doneB, decide_eq_true_eq]; exact hc
      simp (disch := omega) [f12, f116, f117, f118, wrap_i64, allN, hz, hdb]
      omega
  have : i = J.length := by omega
  subst this
  have hdone : ∀ i, i < J.length → wkD S J o S.length i = 0 := fun i hi => by
    have h1 := allN_at hz hi
    have h2 := wk_nn hval ho (Nat.le_refl S.length) i
    simp only [doneB, decide_eq_true_eq] at h1; omega
  have := hK H6 u12 true (planL (mtD S J o) S.length) (xB.trans x6) o12.lst (Or.inr (Or.inr ⟨hval, (plan_iff hval ho).1 hdone, rfl, plan_right hval ho hdone, planL_pw, by have := planL_len (M := mtD S J o) (n := S.length); omega, fun i hi => ?_⟩))
  · rw [hval] at this
    simp [f12, o12.lst.stor]; exact this
  · have : (planL (mtD S J o) S.length).getD i default ∈ planL (mtD S J o) S.length := by rw [getD_of hi]; exact List.getElem_mem hi
    obtain ⟨d, k, e, h1, h2, h3⟩ := planL_mem this
    rw [e]
    have := mt_le hval ho h1 k
    unfold Slt.in64 I64
    simp only
    omega
end
end Go.Proofs.Ytdipmhdekjlifaa.Vm
