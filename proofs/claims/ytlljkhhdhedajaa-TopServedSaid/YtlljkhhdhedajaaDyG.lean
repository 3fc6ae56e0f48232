/- Package dye over the machine: DyeChecks. -/
import Derived.Test.YtlljkhhdhedajaaDyE
namespace Go.Proofs.Ytlljkhhdhedajaa.Vm
open Go
set_option maxRecDepth 100000
set_option linter.unusedSimpArgs false
set_option linter.unusedVariables false
attribute [-simp] List.getD_eq_getElem?_getD

def giftE (A : List Lot) (B : List Wnt) (g : Gft) : Int :=
  if g.w < 0 ∨ (B.length : Int) ≤ g.w ∨ g.l < 0 ∨ (A.length : Int) ≤ g.l then 5 else if g.n < 1 ∨ 1000 < g.n then 1
  else if nearB (A.getD g.l.toNat default).l (A.getD g.l.toNat default).t (A.getD g.l.toNat default).b (B.getD g.w.toNat default).l (B.getD g.w.toNat default).t (B.getD g.w.toNat default).b (B.getD g.w.toNat default).n = true then 0 else 8
def firstE (A : List Lot) (B : List Wnt) (G : List Gft) : Nat → Int
  | 0 => 0
  | i + 1 => if firstE A B G i = 0 then giftE A B (G.getD i default) else firstE A B G i
theorem firstE_keep {A : List Lot} {B : List Wnt} {G : List Gft} {i : Nat} (h : firstE A B G i ≠ 0) : ∀ {j}, i ≤ j → firstE A B G j = firstE A B G i
  | 0, hj => by have : i = 0 := by omega
                subst this; rfl
  | j + 1, hj => by
    by_cases e : i = j + 1
    · subst e; rfl
    · simp only [firstE]
      rw [firstE_keep h (j := j) (by omega), if_neg h]
def cL (G : List Gft) (k : Nat) : Nat → Int
  | 0 => 0
  | i + 1 => cL G k i + if (G.getD i default).l = (k : Int) then (G.getD i default).n else 0
def cW (G : List Gft) (k : Nat) : Nat → Int
  | 0 => 0
  | i + 1 => cW G k i + if (G.getD i default).w = (k : Int) then (G.getD i default).n else 0
def sG (G : List Gft) : Nat → Int
  | 0 => 0
  | i + 1 => sG G i + (G.getD i default).n
theorem giftE_ok {A : List Lot} {B : List Wnt} {g : Gft} (h : giftE A B g = 0) : 0 ≤ g.w ∧ g.w < B.length ∧ 0 ≤ g.l ∧ g.l < A.length ∧ 1 ≤ g.n ∧ g.n ≤ 1000 := by
  unfold giftE at h
  split at h
  · omega
  · split at h
    · omega
    · omega
theorem firstE_at {A : List Lot} {B : List Wnt} {G : List Gft} : ∀ {i : Nat}, firstE A B G i = 0 → ∀ j, j < i → giftE A B (G.getD j default) = 0
  | 0, _, j, hj => by omega
  | i + 1, h, j, hj => by
    simp only [firstE] at h
    split at h
    · rename_i h0
      by_cases e : j = i
      · subst e; exact h
      · exact firstE_at h0 j (by omega)
    · contradiction
theorem cL_bd {A : List Lot} {B : List Wnt} {G : List Gft} {k : Nat} : ∀ {i : Nat}, firstE A B G i = 0 → 0 ≤ cL G k i ∧ cL G k i ≤ 1000 * (i : Int)
  | 0, _ => by simp [cL]
  | i + 1, h => by
    have h0 : firstE A B G i = 0 := by
      simp only [firstE] at h; split at h
      · assumption
      · contradiction
    have a := cL_bd (k := k) h0
    have b := giftE_ok (firstE_at h i (by omega))
    simp only [cL]; split <;> omega
theorem cW_bd {A : List Lot} {B : List Wnt} {G : List Gft} {k : Nat} : ∀ {i : Nat}, firstE A B G i = 0 → 0 ≤ cW G k i ∧ cW G k i ≤ 1000 * (i : Int)
  | 0, _ => by simp [cW]
  | i + 1, h => by
    have h0 : firstE A B G i = 0 := by
      simp only [firstE] at h; split at h
      · assumption
      · contradiction
    have a := cW_bd (k := k) h0
    have b := giftE_ok (firstE_at h i (by omega))
    simp only [cW]; split <;> omega
theorem sG_bd {A : List Lot} {B : List Wnt} {G : List Gft} : ∀ {i : Nat}, firstE A B G i = 0 → 0 ≤ sG G i ∧ sG G i ≤ 1000 * (i : Int)
  | 0, _ => by simp [sG]
  | i + 1, h => by
    have h0 : firstE A B G i = 0 := by
      simp only [firstE] at h; split at h
      · assumption
      · contradiction
    have a := sG_bd h0
    have b := giftE_ok (firstE_at h i (by omega))
    simp only [sG]; omega
def lotsOk (A : List Lot) (G : List Gft) (k : Nat) : Bool := !decide ((A.getD k default).w < cL G k G.length)
def wntsOk (B : List Wnt) (G : List Gft) (k : Nat) : Bool := !decide ((B.getD k default).w < cW G k G.length)
def checkP (A : List Lot) (B : List Wnt) (G : List Gft) : Int × Int :=
  if valP A B = 0 then (if firstE A B G G.length = 0 then (if allN (lotsOk A G) A.length = true ∧ allN (wntsOk B G) B.length = true then (sG G G.length, 0) else (0, 6)) else (0, firstE A B G G.length)) else (0, valP A B)

section
variable {lim : Nat} {H : Hp} {K : V → Hp → Prop} {av bv gv : V} {A : List Lot} {B : List Wnt} {G : List Gft}
theorem gft_load (h : LstV gftC H gv G) {i : Nat} (hi : i < G.length) {L : Lo} : vload (some 3) L H (ept 3 gv i) = some (.agg [.int .i64 (G.getD i default).w, .int .i64 (G.getD i default).l, .int .i64 (G.getD i default).n]) := h.load hi
theorem dye_checkGift (ha : LstV lotC H av A) (hb : LstV wntC H bv B) {g : Gft} (hK : K (.int .i64 (giftE A B g)) H) : VCall tbl lim 75 [av, bv, .agg [.int .i64 g.w, .int .i64 g.l, .int .i64 g.n]] H K := by
  refine VCall_fn tbl_at75 rfl ?_
  simp [vf75, ha.len, hb.len]
  refine cond_bool (fun h => ?_) fun h => ?_
  · have h : g.w < 0 ∨ (B.length : Int) ≤ g.w ∨ g.l < 0 ∨ (A.length : Int) ≤ g.l := by simp at h; omega
    simp only [giftE, h, if_true] at hK
    simp; exact hK
  have h : ¬ (g.w < 0 ∨ (B.length : Int) ≤ g.w ∨ g.l < 0 ∨ (A.length : Int) ≤ g.l) := by simp at h; omega
  simp only [giftE, h, if_false] at hK
  simp
  refine cond_bool (fun h2 => ?_) fun h2 => ?_
  · have h2 : g.n < 1 ∨ 1000 < g.n := by simpa using h2
    simp only [h2, if_true] at hK
    simp; exact hK
  have h2 : ¬ (g.n < 1 ∨ 1000 < g.n) := by simp at h2; omega
  simp only [h2, if_false] at hK
  obtain ⟨w, hw⟩ := Int.eq_ofNat_of_zero_le (show 0 ≤ g.w by omega)
  obtain ⟨k, hk⟩ := Int.eq_ofNat_of_zero_le (show 0 ≤ g.l by omega)
  have h1 : w < B.length := by omega
  have h3 : k < A.length := by omega
  rw [hw, hk] at hK
  simp only [Int.toNat_natCast] at hK
  simp (disch := omega) [hw, hk, ha.at h3, hb.at h1, lot_load ha, wnt_load hb]
  refine dye_Near ?_
  split at hK
  · rename_i hn
    simp [hn]; exact hK
  · rename_i hn
    simp [hn]; exact hK
theorem OwnV.keepB {n : Nat} {H H' : Hp} {v : V} {l : List Int} (h : OwnV n H v l) (hk : ∀ b o k z, v = .sl b o k z → H'[b]? = H[b]?) : OwnV n H' v l := by
  cases h with
  | nil => exact .nil
  | row h1 h2 => exact .row h1 (by rw [hk _ _ _ _ rfl]; exact h2)
theorem dye_Check (ha : LstV lotC H av A) (hb : LstV wntC H bv B) (hg : LstV gftC H gv G) (hlim : lim ≤ H.length) (hl : G.length ≤ 1000) (hK : ∀ H', HX H H' → K (.tup [.int .i64 (checkP A B G).1, .int .i64 (checkP A B G).2]) H') : VCall tbl lim 50 [av, bv, gv] H K := by
  refine VCall_fn tbl_at50 rfl ?_
  simp [vf50, ha.stor, hb.stor]
  refine dye_Validate ha hb ?_
  simp
  refine cond_ndec (fun h => ?_) fun h => ?_
  · simp; simpa [checkP, h] using hK _ .refl
  have h6 : A.length ≤ 6 ∧ B.length ≤ 6 := by
    have := h
    simp only [valP] at this
    split at this <;> omega
  have k1 := fun (L : Lo) (H : Hp) => vmks_int (L := L) (H := H) (b := 8) (n := A.length) (by omega)
  have k2 := fun (L : Lo) (H : Hp) => vmks_int (L := L) (H := H) (b := 8) (n := B.length) (by omega)
  simp [ha.len, hb.len, hg.len, k1, k2]
  refine wLoop_up G.length (fun i fr L H' => ∃ l m : List Int, ∃ X, (fr 0 = av ∧ fr 1 = bv ∧ fr 9 = .sl H.length 0 A.length 1 ∧ fr 10 = .sl (H.length + 1) 0 B.length 1 ∧ fr 11 = .int .i64 (sG G i) ∧ fr 31 = gv ∧ fr 32 = .int .i64 G.length ∧ fr 33 = .int .i64 i) ∧ L = X ∧ HX H H' ∧
      H'[H.length]? = some (.row (ints l) true) ∧ H'[H.length + 1]? = some (.row (ints m) true) ∧ l.length = A.length ∧ m.length = B.length ∧ firstE A B G i = 0 ∧
      (∀ k, k < A.length → l.getD k 0 = cL G k i) ∧ (∀ k, k < B.length → m.getD k 0 = cW G k i)) ⟨zs A.length, zs B.length, [], by simp [sG, hg.len], rfl, ⟨[.row (ints (zs A.length)) true, .row (ints (zs B.length)) true], by simp⟩, by rw [loAt0]; rfl, by rw [loAt]; rfl, by simp, by simp, rfl, fun k hk => by rw [zs_getD]; rfl, fun k hk => by rw [zs_getD]; rfl⟩ ?_
  rintro i hi fr L H2 ⟨l, m, X, ⟨f0, f1, f9, f10, f11, f31, f32, f33⟩, rfl, hx, ol, om, hll, hml, hf, hcl, hcm⟩
  have hxl := hx.len
  have ha2 := ha.mono hx
  have hb2 := hb.mono hx
  have hg2 := hg.mono hx
  simp [f0, f1, f9, f10, f11, f31, f32, f33]
  refine cond_dec (fun ht => ?_) fun hfl => ?_
  · have ht : i < G.length := by omega
    simp (disch := omega) [f0, f1, f9, f10, f11, f31, f32, f33, hg2.at ht, gft_load hg2, lastO, lastS, ha.stor, hb.stor]
    refine dye_checkGift ha2 hb2 ?_
    have hs : firstE A B G (i + 1) = giftE A B (G.getD i default) := by simp only [firstE, hf, if_true]
    simp
    refine cond_ndec (fun he => ?_) fun he => ?_
    · have hne : firstE A B G (i + 1) ≠ 0 := by rw [hs]; exact he
      have hfin := firstE_keep hne (j := G.length) (by omega)
      have := hK _ hx
      simp only [checkP, h, if_true, hfin, hs, he, if_false] at this
      simp; exact this
    · have ge := giftE_ok he
      have bs := sG_bd hf
      obtain ⟨w, hw⟩ := Int.eq_ofNat_of_zero_le ge.1
      obtain ⟨k, hk⟩ := Int.eq_ofNat_of_zero_le ge.2.2.1
      have h1 : w < B.length := by omega
      have h3 : k < A.length := by omega
      have b1 := cL_bd (k := k) hf
      have b2 := cW_bd (k := w) hf
      have el := hcl k h3
      have em := hcm w h1
      have r1 : rd none (ints l) k = some (.int .i64 (cL G k i)) := by rw [rd_ints (by omega), el]
      have r2 : rd none (ints m) w = some (.int .i64 (cW G w i)) := by rw [rd_ints (by omega), em]
      have s1 : ∀ x, splice (ints l) k [.int .i64 x] = ints (l.set k x) := fun x => splice_ints_one (by omega)
      have s2 : ∀ x, splice (ints m) w [.int .i64 x] = ints (m.set w x) := fun x => splice_ints_one (by omega)
      have g1 : ∀ r, (H2.set H.length r)[H.length + 1]? = some (.row (ints m) true) := fun r => by rw [List.getElem?_set_ne (by omega)]; exact om
      have q1 := (List.getElem?_eq_some_iff.1 ol).1
      have q2 := (List.getElem?_eq_some_iff.1 om).1
      have lm1 : lim ≤ H.length + 1 := by omega
      have k1' : (k + 1 ≤ A.length) = True := eq_true (by omega)
      have w1' : (w + 1 ≤ B.length) = True := eq_true (by omega)
      simp (disch := omega) [f0, f1, f9, f10, f11, f31, f32, f33, lastO, lastS, hw, hk, h1, h3, ol, om, r1, r2, s1, s2, g1, vstoreH, hlim, lm1, wrap_i64, hll, hml, -getElem?_pos, k1', w1']
      refine ⟨ht, rfl, HX.of (by simp; exact hxl) fun b hb => by rw [List.getElem?_set_ne (by omega), List.getElem?_set_ne (by omega), hx.same hb], _, rfl, _, List.getElem?_set_self (by simp; omega), by simp [hll], by simp [hml], by rw [hs]; exact he, fun j hj => ?_, fun j hj => ?_⟩
      · rw [getD_set (by omega)]
        simp only [cL, hk]
        by_cases e : j = k
        · subst e; simp
        · rw [if_neg e, if_neg (by omega), hcl j hj]; omega
      · rw [getD_set (by omega)]
        simp only [cW, hw]
        by_cases e : j = w
        · subst e; simp
        · rw [if_neg e, if_neg (by omega), hcm j hj]; omega
  · have : i = G.length := by omega
    subst this
    have cb := fun k => cL_bd (k := k) hf
    have cw := fun k => cW_bd (k := k) hf
    have q1 := (List.getElem?_eq_some_iff.1 ol).1
    simp [f0, f1, f9, f10, f11, vlenS_sl]
    refine wLoop_up A.length (fun j fr L H' => (fr 0 = av ∧ fr 1 = bv ∧ fr 10 = .sl (H.length + 1) 0 B.length 1 ∧ fr 11 = .int .i64 (sG G G.length) ∧ fr 67 = .sl H.length 0 A.length 1 ∧ fr 68 = .int .i64 A.length ∧ fr 69 = .int .i64 j) ∧ H' = H2 ∧ allN (lotsOk A G) j = true) ⟨by simp [f0, f1, f9, f10, f11, vlenS_sl], rfl, rfl⟩ ?_
    clear f0 f1 f9 f10 f11 f31 f32 f33
    rintro j hj fr L' H' ⟨⟨f0, f1, f10, f11, f67, f68, f69⟩, e0, hz⟩
    have e0 := e0.symm
    subst e0
    simp [f0, f1, f10, f11, f67, f68, f69]
    refine cond_dec (fun ht => ?_) fun hfl => ?_
    · have ht : j < A.length := by omega
      have r1 : rd none (ints l) j = some (.int .i64 (cL G j G.length)) := by rw [rd_ints (by omega), hcl j ht]
      have r0 : ∀ L, vload none L H2 (eptf 4 av j 0) = some (.int .i64 (A.getD j default).w) := fun L => ha2.rd1 ht (by omega)
      have fa : ∀ m, vfaddr m (ept 4 av j) = some (eptf 4 av j m) := fun m => ha2.faddr ht
      simp (disch := omega) [f0, f1, f10, f11, f67, f68, f69, ht, ol, r1, ha2.at ht, fa, r0, -getElem?_pos]
      refine cond_dec (fun ho => ?_) fun ho => ?_
      · have hno := allN_not (f := lotsOk A G) ht (by simp [lotsOk, ho])
        have := hK _ hx
        simp only [checkP, h, if_true, hf, hno, Bool.false_eq_true, false_and, if_false] at this
        simp; exact this
      · have e : lotsOk A G j = true := by simp [lotsOk]; omega
        simp (disch := omega) [f0, f1, f10, f11, f67, f68, f69, wrap_i64, allN, e, hz]
    have : j = A.length := by omega
    subst this
    simp [f0, f1, f10, f11, vlenS_sl]
    refine wLoop_up B.length (fun j fr L H' => (fr 1 = bv ∧ fr 11 = .int .i64 (sG G G.length) ∧ fr 82 = .sl (H.length + 1) 0 B.length 1 ∧ fr 83 = .int .i64 B.length ∧ fr 84 = .int .i64 j) ∧ H' = H2 ∧ allN (wntsOk B G) j = true) ⟨by simp [f0, f1, f10, f11, vlenS_sl], rfl, rfl⟩ ?_
    clear f0 f1 f10 f11 f67 f68 f69
    rintro j hj2 fr L'' H' ⟨⟨f1, f11, f82, f83, f84⟩, e0, hz2⟩
    have e0 := e0.symm
    subst e0
    simp [f1, f11, f82, f83, f84]
    refine cond_dec (fun ht => ?_) fun hfl2 => ?_
    · have ht : j < B.length := by omega
      have r1 : rd none (ints m) j = some (.int .i64 (cW G j G.length)) := by rw [rd_ints (by omega), hcm j ht]
      have r0 : ∀ L, vload none L H2 (eptf 5 bv j 0) = some (.int .i64 (B.getD j default).w) := fun L => hb2.rd1 ht (by omega)
      have fa : ∀ m, vfaddr m (ept 5 bv j) = some (eptf 5 bv j m) := fun m => hb2.faddr ht
      simp (disch := omega) [f1, f11, f82, f83, f84, ht, om, r1, hb2.at ht, fa, r0, -getElem?_pos]
      refine cond_dec (fun ho => ?_) fun ho => ?_
      · have hno := allN_not (f := wntsOk B G) ht (by simp [wntsOk, ho])
        have := hK _ hx
        simp only [checkP, h, if_true, hf, hno, Bool.false_eq_true, and_false, if_false] at this
        simp; exact this
      · have e : wntsOk B G j = true := by simp [wntsOk]; omega
        simp (disch := omega) [f1, f11, f82, f83, f84, wrap_i64, allN, e, hz2]
    have : j = B.length := by omega
    subst this
    have := hK _ hx
    simp only [checkP, h, if_true, hf, hz, hz2, and_self] at this
    simp [f11]; exact this
theorem ref_Check (ha : LstV lotC H av A) (hb : LstV wntC H bv B) (hg : LstV gftC H gv G) (hlim : lim ≤ H.length) (hl : G.length ≤ 1000) (hK : ∀ H', HX H H' → K (.tup [.int .i64 (checkP A B G).1, .int .i64 (checkP A B G).2]) H') : VCall tbl lim 51 [av, bv, gv] H K := by
  refine VCall_fn tbl_at51 rfl ?_
  simp [vf51, ha.stor, hb.stor]
  refine ref_Validate ha hb ?_
  simp
  refine cond_ndec (fun h => ?_) fun h => ?_
  · simp; simpa [checkP, h] using hK _ .refl
  have h6 : A.length ≤ 6 ∧ B.length ≤ 6 := by
    have := h
    simp only [valP] at this
    split at this <;> omega
  have k1 := fun (L : Lo) (H : Hp) => vmks_int (L := L) (H := H) (b := 8) (n := A.length) (by omega)
  have k2 := fun (L : Lo) (H : Hp) => vmks_int (L := L) (H := H) (b := 8) (n := B.length) (by omega)
  simp [ha.len, hb.len, k1, k2]
  refine wLoop_up G.length (fun i fr L H' => ∃ l m : List Int, ∃ X, (fr 0 = av ∧ fr 1 = bv ∧ fr 2 = gv ∧ fr 9 = .int .i64 (sG G i) ∧ fr 10 = .sl H.length 0 A.length 1 ∧ fr 11 = .sl (H.length + 1) 0 B.length 1 ∧ fr 12 = .int .i64 i) ∧ L = X ∧ HX H H' ∧
      H'[H.length]? = some (.row (ints l) true) ∧ H'[H.length + 1]? = some (.row (ints m) true) ∧ l.length = A.length ∧ m.length = B.length ∧ firstE A B G i = 0 ∧
      (∀ k, k < A.length → l.getD k 0 = cL G k i) ∧ (∀ k, k < B.length → m.getD k 0 = cW G k i)) ⟨zs A.length, zs B.length, [], by simp [sG], rfl, ⟨[.row (ints (zs A.length)) true, .row (ints (zs B.length)) true], by simp⟩, by rw [loAt0]; rfl, by rw [loAt]; rfl, by simp, by simp, rfl, fun k hk => by rw [zs_getD]; rfl, fun k hk => by rw [zs_getD]; rfl⟩ ?_
  rintro i hi fr L H2 ⟨l, m, X, ⟨f0, f1, f2, f9, f10, f11, f12⟩, rfl, hx, ol, om, hll, hml, hf, hcl, hcm⟩
  have hxl := hx.len
  have ha2 := ha.mono hx
  have hb2 := hb.mono hx
  have hg2 := hg.mono hx
  simp [f0, f1, f2, f9, f10, f11, f12, hg.len]
  refine cond_dec (fun ht => ?_) fun hfl => ?_
  · have ht : i < G.length := by omega
    have hs : firstE A B G (i + 1) = giftE A B (G.getD i default) := by simp only [firstE, hf, if_true]
    have bad : giftE A B (G.getD i default) ≠ 0 → K (.tup [.int .i64 0, .int .i64 (giftE A B (G.getD i default))]) H2 := by
      intro he
      have hne : firstE A B G (i + 1) ≠ 0 := by rw [hs]; exact he
      have hfin := firstE_keep hne (j := G.length) (by omega)
      have := hK _ hx
      simp only [checkP, h, if_true, hfin, hs, he, if_false] at this
      exact this
    simp (disch := omega) [f0, f1, f2, f9, f10, f11, f12, hg2.at ht, gft_load hg2, lastO, lastS, ha.stor, hb.stor, ha.len, hb.len]
    refine cond_bool (fun c1 => ?_) fun c1 => ?_
    · have c1 : (G.getD i default).w < 0 ∨ (B.length : Int) ≤ (G.getD i default).w ∨ (G.getD i default).l < 0 ∨ (A.length : Int) ≤ (G.getD i default).l := by simp at c1; omega
      have e : giftE A B (G.getD i default) = 5 := by simp only [giftE, c1, if_true]
      rw [e] at bad
      simp; exact bad (by omega)
    have c1 : ¬ ((G.getD i default).w < 0 ∨ (B.length : Int) ≤ (G.getD i default).w ∨ (G.getD i default).l < 0 ∨ (A.length : Int) ≤ (G.getD i default).l) := by simp at c1; omega
    simp (disch := omega) [f0, f1, f2, f9, f10, f11, f12, lastO, lastS]
    refine ref_within ?_
    by_cases c2 : 1 ≤ (G.getD i default).n ∧ (G.getD i default).n ≤ 1000
    case neg =>
      have e : giftE A B (G.getD i default) = 1 := by
        simp only [giftE, c1, if_false]; rw [if_pos (by omega)]
      rw [e] at bad
      simp [c2]; exact bad (by omega)
    obtain ⟨w0, hw0⟩ := Int.eq_ofNat_of_zero_le (show 0 ≤ (G.getD i default).w by omega)
    obtain ⟨k0, hk0⟩ := Int.eq_ofNat_of_zero_le (show 0 ≤ (G.getD i default).l by omega)
    have h10 : w0 < B.length := by omega
    have h30 : k0 < A.length := by omega
    simp (disch := omega) [c2, f0, f1, f2, f9, f10, f11, f12, lastO, lastS, hw0, hk0, ha2.at h30, hb2.at h10, lot_load ha2, wnt_load hb2]
    refine ref_Near ?_
    by_cases c3 : nearB (A.getD k0 default).l (A.getD k0 default).t (A.getD k0 default).b (B.getD w0 default).l (B.getD w0 default).t (B.getD w0 default).b (B.getD w0 default).n = true
    case neg =>
      have e : giftE A B (G.getD i default) = 8 := by
        simp only [giftE, c1, if_false]; rw [if_neg (by omega)]
        simp only [hw0, hk0, Int.toNat_natCast]; rw [if_neg c3]
      rw [e] at bad
      simp [c3]; exact bad (by omega)
    have he : giftE A B (G.getD i default) = 0 := by
      simp only [giftE, c1, if_false]; rw [if_neg (by omega)]
      simp only [hw0, hk0, Int.toNat_natCast]; rw [if_pos c3]
    have ge := giftE_ok he
    have bs := sG_bd hf
    obtain ⟨w, hw⟩ := Int.eq_ofNat_of_zero_le ge.1
    obtain ⟨k, hk⟩ := Int.eq_ofNat_of_zero_le ge.2.2.1
    obtain rfl : k = k0 := by omega
    obtain rfl : w = w0 := by omega
    have h1 : w < B.length := by omega
    have h3 : k < A.length := by omega
    have b1 := cL_bd (k := k) hf
    have b2 := cW_bd (k := w) hf
    have el := hcl k h3
    have em := hcm w h1
    have r1 : rd none (ints l) k = some (.int .i64 (cL G k i)) := by rw [rd_ints (by omega), el]
    have r2 : rd none (ints m) w = some (.int .i64 (cW G w i)) := by rw [rd_ints (by omega), em]
    have s1 : ∀ x, splice (ints l) k [.int .i64 x] = ints (l.set k x) := fun x => splice_ints_one (by omega)
    have s2 : ∀ x, splice (ints m) w [.int .i64 x] = ints (m.set w x) := fun x => splice_ints_one (by omega)
    have g1 : ∀ r, (H2.set H.length r)[H.length + 1]? = some (.row (ints m) true) := fun r => by rw [List.getElem?_set_ne (by omega)]; exact om
    have q1 := (List.getElem?_eq_some_iff.1 ol).1
    have q2 := (List.getElem?_eq_some_iff.1 om).1
    have lm1 : lim ≤ H.length + 1 := by omega
    have k1' : (k + 1 ≤ A.length) = True := eq_true (by omega)
    have w1' : (w + 1 ≤ B.length) = True := eq_true (by omega)
    simp (disch := omega) [c3, hw0, hk0, f0, f1, f2, f9, f10, f11, f12, lastO, lastS, hw, hk, h1, h3, ol, om, r1, r2, s1, s2, g1, vstoreH, hlim, lm1, wrap_i64, hll, hml, -getElem?_pos, k1', w1']
    refine ⟨ht, rfl, HX.of (by simp; exact hxl) fun b hb => by rw [List.getElem?_set_ne (by omega), List.getElem?_set_ne (by omega), hx.same hb], _, rfl, _, List.getElem?_set_self (by simp; omega), by simp [hll], by simp [hml], by rw [hs]; exact he, fun j hj => ?_, fun j hj => ?_⟩
    · rw [getD_set (by omega)]
      simp only [cL, hk]
      by_cases e : j = k
      · subst e; simp
      · rw [if_neg e, if_neg (by omega), hcl j hj]; omega
    · rw [getD_set (by omega)]
      simp only [cW, hw]
      by_cases e : j = w
      · subst e; simp
      · rw [if_neg e, if_neg (by omega), hcm j hj]; omega
  · have : i = G.length := by omega
    subst this
    have cb := fun k => cL_bd (k := k) hf
    have cw := fun k => cW_bd (k := k) hf
    have q1 := (List.getElem?_eq_some_iff.1 ol).1
    simp [f0, f1, f9, f10, f11, vlenS_sl]
    refine wLoop_up A.length (fun j fr L H' => (fr 0 = av ∧ fr 1 = bv ∧ fr 9 = .int .i64 (sG G G.length) ∧ fr 10 = .sl H.length 0 A.length 1 ∧ fr 11 = .sl (H.length + 1) 0 B.length 1 ∧ fr 14 = .int .i64 j) ∧ H' = H2 ∧ allN (lotsOk A G) j = true) ⟨by simp [f0, f1, f9, f10, f11, vlenS_sl], rfl, rfl⟩ ?_
    clear f0 f1 f2 f9 f10 f11 f12
    rintro j hj fr L' H' ⟨⟨f0, f1, f9, f10, f11, f14⟩, e0, hz⟩
    have e0 := e0.symm
    subst e0
    simp [f0, f1, f9, f10, f11, f14, ha.len]
    refine cond_dec (fun ht => ?_) fun hfl => ?_
    · have ht : j < A.length := by omega
      have r1 : rd none (ints l) j = some (.int .i64 (cL G j G.length)) := by rw [rd_ints (by omega), hcl j ht]
      have r0 : ∀ L, vload none L H2 (eptf 4 av j 0) = some (.int .i64 (A.getD j default).w) := fun L => ha2.rd1 ht (by omega)
      have fa : ∀ m, vfaddr m (ept 4 av j) = some (eptf 4 av j m) := fun m => ha2.faddr ht
      simp (disch := omega) [f0, f1, f9, f10, f11, f14, ht, ol, r1, ha2.at ht, fa, r0, -getElem?_pos]
      refine cond_dec (fun ho => ?_) fun ho => ?_
      · have hno := allN_not (f := lotsOk A G) ht (by simp [lotsOk, ho])
        have := hK _ hx
        simp only [checkP, h, if_true, hf, hno, Bool.false_eq_true, false_and, if_false] at this
        simp; exact this
      · have e : lotsOk A G j = true := by simp [lotsOk]; omega
        simp (disch := omega) [f0, f1, f9, f10, f11, f14, wrap_i64, allN, e, hz]
    have : j = A.length := by omega
    subst this
    simp [f0, f1, f9, f10, f11, vlenS_sl]
    refine wLoop_up B.length (fun j fr L H' => (fr 1 = bv ∧ fr 9 = .int .i64 (sG G G.length) ∧ fr 11 = .sl (H.length + 1) 0 B.length 1 ∧ fr 15 = .int .i64 j) ∧ H' = H2 ∧ allN (wntsOk B G) j = true) ⟨by simp [f0, f1, f9, f10, f11, vlenS_sl], rfl, rfl⟩ ?_
    clear f0 f1 f9 f10 f11 f14
    rintro j hj2 fr L'' H' ⟨⟨f1, f9, f11, f15⟩, e0, hz2⟩
    have e0 := e0.symm
    subst e0
    simp [f1, f9, f11, f15, hb.len]
    refine cond_dec (fun ht => ?_) fun hfl2 => ?_
    · have ht : j < B.length := by omega
      have r1 : rd none (ints m) j = some (.int .i64 (cW G j G.length)) := by rw [rd_ints (by omega), hcm j ht]
      have r0 : ∀ L, vload none L H2 (eptf 5 bv j 0) = some (.int .i64 (B.getD j default).w) := fun L => hb2.rd1 ht (by omega)
      have fa : ∀ m, vfaddr m (ept 5 bv j) = some (eptf 5 bv j m) := fun m => hb2.faddr ht
      simp (disch := omega) [f1, f9, f11, f15, ht, om, r1, hb2.at ht, fa, r0, -getElem?_pos]
      refine cond_dec (fun ho => ?_) fun ho => ?_
      · have hno := allN_not (f := wntsOk B G) ht (by simp [wntsOk, ho])
        have := hK _ hx
        simp only [checkP, h, if_true, hf, hno, Bool.false_eq_true, and_false, if_false] at this
        simp; exact this
      · have e : wntsOk B G j = true := by simp [wntsOk]; omega
        simp (disch := omega) [f1, f9, f11, f15, wrap_i64, allN, e, hz2]
    have : j = B.length := by omega
    subst this
    have := hK _ hx
    simp only [checkP, h, if_true, hf, hz, hz2, and_self] at this
    simp [f9]; exact this
theorem law_DyeChecks {ws : List V} {f : Trd} (hv : TrdV H ws f) (hg : LstV gftC H gv G) (hlim : lim ≤ H.length) (hK : ∀ H', K (.bool true) H') : VCall tbl lim 13 [.agg ws, gv] H K := by
  cases hv with
  | mk ha hb =>
    rename_i av bv A B
    refine VCall_fn tbl_at13 rfl ?_
    simp [vf13, ha.stor, hb.stor]
    refine law_wide ha hb ?_
    have e1 : decide (200 < (G.length : Int)) = decide (200 < G.length) := by simp only [decide_eq_decide]; omega
    simp [hg.len, e1]
    refine cond_bool (fun h => ?_) fun h => ?_
    · simp
      refine law_known hlim fun H1 => ?_
      simp; exact hK _
    have h : G.length ≤ 200 := by simp at h; omega
    simp [ha.stor, hb.stor, hg.stor]
    refine dye_Check ha hb hg hlim (by omega) fun H1 x1 => ?_
    replace x1 : HX H H1 := x1
    have l1 := x1.len
    simp [ha.stor, hb.stor, hg.stor]
    refine ref_Check (ha.mono x1) (hb.mono x1) (hg.mono x1) (by omega) (by omega) fun H2 x2 => ?_
    replace x2 : HX H1 H2 := x2
    have l2 := x2.len
    simp
    refine law_known (by omega) fun H3 => ?_
    simp; exact hK _
theorem gfts_of {d : CD} (h : RepT H (.sl [cInt, cInt, cInt]) gv d) : ∃ l, LstV gftC H gv l := by
  obtain ⟨l, h1, _, _⟩ := lst_of (c := gftC) rfl (fun z => True) (fun vs ds h => by
    obtain ⟨v0, u0, _, _, rfl, _, p0, q0⟩ := reps_cons h
    obtain ⟨v1, u1, _, _, rfl, _, p1, q1⟩ := reps_cons q0
    obtain ⟨v2, u2, _, _, rfl, _, p2, q2⟩ := reps_cons q1
    have e := reps_nil q2
    subst e
    obtain ⟨n0, rfl, c0⟩ := int_of p0
    obtain ⟨n1, rfl, c1⟩ := int_of p1
    obtain ⟨n2, rfl, c2⟩ := int_of p2
    exact ⟨⟨n0, n1, n2⟩, rfl, trivial⟩) h
  exact ⟨l, h1⟩
end
end Go.Proofs.Ytlljkhhdhedajaa.Vm
