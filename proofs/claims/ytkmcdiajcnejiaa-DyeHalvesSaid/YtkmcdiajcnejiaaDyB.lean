/- Package dye over the machine: paths of baths, lots and wants. -/
import Derived.Test.YtkmcdiajcnejiaaDyA
namespace Go.Proofs.Ytkmcdiajcnejiaa.Vm
open Go
set_option maxRecDepth 100000
set_option linter.unusedSimpArgs false
set_option linter.unusedVariables false
attribute [-simp] List.getD_eq_getElem?_getD

structure Sh where
  l : Int
  t : Int
  b : Int
  deriving Inhabited, DecidableEq
def Sh.cells (e : Sh) : List V := [.int .i64 e.l, .int .i64 e.t, .int .i64 e.b]
def shC : Cod Sh 3 := ⟨Sh.cells, fun _ => rfl⟩
structure Lot where
  w : Int
  l : Int
  t : Int
  b : Int
  deriving Inhabited
def Lot.cells (e : Lot) : List V := [.int .i64 e.w, .int .i64 e.l, .int .i64 e.t, .int .i64 e.b]
def lotC : Cod Lot 4 := ⟨Lot.cells, fun _ => rfl⟩
structure Wnt where
  w : Int
  l : Int
  t : Int
  b : Int
  n : Int
  deriving Inhabited
def Wnt.cells (e : Wnt) : List V := [.int .i64 e.w, .int .i64 e.l, .int .i64 e.t, .int .i64 e.b, .int .i64 e.n]
def wntC : Cod Wnt 5 := ⟨Wnt.cells, fun _ => rfl⟩

/-- the baths on the way -/
def pathF (lv tn : Int) : Nat → Int → Int → Int → Option (List Sh)
  | 0, _, _, _ => none
  | f + 1, l, t, b => if l = lv ∧ t = tn then some [] else if lv ≤ l then some [⟨lv, tn, b⟩] else if b = 3 then none else (pathF lv tn f (min (l + 2) 10) 0 (b + 1)).map fun p => ⟨min (l + 2) 10, 0, b + 1⟩ :: p
def pathO (l t b lv tn : Int) : Option (List Sh) := if shdB l t b = true ∧ colB lv tn = true then pathF lv tn (4 - b).toNat l t b else none
def pathE (l t b lv tn : Int) : Int := if shdB l t b = true ∧ colB lv tn = true then 0 else 1
def pathL (l t b lv tn : Int) : List Sh := (pathO l t b lv tn).getD []

section
variable {lim : Nat} {H : Hp} {K : V → Hp → Prop} {l t b lv tn : Int}
theorem dye_Path (hlim : lim ≤ H.length) (hK : ∀ H' v, HX H H' → OwnT H.length shC H' v (pathL l t b lv tn) → K (.tup [v, .bool (pathO l t b lv tn).isSome, .int .i64 (pathE l t b lv tn)]) H') : VCall tbl lim 68 [.agg [.int .i64 l, .int .i64 t, .int .i64 b], .int .i64 lv, .int .i64 tn] H K := by
  refine VCall_fn tbl_at68 rfl ?_
  simp [vf68]
  refine dye_ValidShade ?_
  by_cases h : shdB l t b = true
  case neg =>
    simp [h]
    have := hK _ .snil .refl (by rw [show pathL l t b lv tn = [] by simp [pathL, pathO, h]]; exact .nil)
    simpa [pathL, pathO, pathE, h] using this
  simp [h]
  refine dye_isColor ?_
  by_cases h2 : colB lv tn = true
  case neg =>
    simp [h2]
    have := hK _ .snil .refl (by rw [show pathL l t b lv tn = [] by simp [pathL, pathO, h2]]; exact .nil)
    simpa [pathL, pathO, pathE, h2] using this
  simp [h2]
  have hfin : pathE l t b lv tn = 0 := by simp [pathE, h, h2]
  have hO : pathO l t b lv tn = pathF lv tn (4 - b).toNat l t b := by simp [pathO, h, h2]
  rw [hfin] at hK
  have hb := h
  simp only [shdB, decide_eq_true_eq] at hb
  refine wLoop_up (4 - b).toNat (fun i fr L H' => ∃ v X acc l' t', (fr 1 = .int .i64 lv ∧ fr 2 = .int .i64 tn ∧ fr 3 = .lp 0 0 ∧ fr 9 = v) ∧ L = [.int .i64 l', .int .i64 t', .int .i64 (b + i)] :: X ∧ HX H H' ∧ OwnT H.length shC H' v acc ∧ acc.length = i ∧ shdB l' t' (b + i) = true ∧
      pathO l t b lv tn = (pathF lv tn ((4 - b).toNat - i) l' t' (b + i)).map (acc ++ ·)) ⟨.snil, [], [], l, t, by simp, by simp, .refl, .nil, rfl, by simpa using h, by rw [hO]; simp⟩ ?_
  rintro i hi fr L H' ⟨v, X, acc, l', t', ⟨f1, f2, f3, f9⟩, rfl, hx, hv, hal, hs, hp⟩
  have hs2 := hs
  simp only [shdB, decide_eq_true_eq] at hs2
  have hc2 := h2
  simp only [colB, decide_eq_true_eq] at hc2
  have hxl := hx.len
  obtain ⟨f, hf⟩ : ∃ f, (4 - b).toNat - i = f + 1 := ⟨(4 - b).toNat - i - 1, by omega⟩
  rw [hf] at hp
  simp only [pathF] at hp
  by_cases ht : l' = lv ∧ t' = tn
  · obtain ⟨rfl, rfl⟩ := ht
    simp only [and_self, if_true, Option.map_some, List.append_nil] at hp
    simp [f1, f2, f3, f9, hv.lst.stor]
    have := hK _ _ hx (by simp only [pathL, hp, Option.getD_some]; exact hv)
    rw [hp] at this
    exact this
  · rw [if_neg ht] at hp
    have hne : (!decide (l' = lv) || !decide (t' = tn)) = true := by
      by_cases h1 : l' = lv
      · have : ¬ t' = tn := fun e => ht ⟨h1, e⟩
        simp [h1, this]
      · simp [h1]
    simp [f1, f2, f3, f9, hne]
    refine dye_Dye ?_
    by_cases hle : lv ≤ l'
    · rw [if_pos hle] at hp
      simp only [Option.map_some] at hp
      have hd : dyeP l' t' (b + i) lv tn = ((lv, tn, b + i), 0) := by simp only [dyeP, hs, h2, and_self, if_true]; rw [if_neg (by omega)]
      obtain ⟨v', H3, a1, a2, a3, a4, a5, a6⟩ := hv.append (lim := lim) (bytes := 24) (x := ⟨lv, tn, b + i⟩) (cs := [.int .i64 lv, .int .i64 tn, .int .i64 (b + i)]) rfl ⟨hlim, hx.len⟩ (by omega) (by omega)
      simp [f1, f2, f3, f9, hd, lastO, lastS, a1, a2.lst.stor]
      have := hK _ _ (a3 _ hx (Nat.le_refl _)) (by simp only [pathL, hp, Option.getD_some]; exact a2)
      rw [hp] at this
      exact this
    · rw [if_neg hle] at hp
      have hd : dyeP l' t' (b + i) lv tn = ((0, 0, 0), 14) := by simp only [dyeP, hs, h2, and_self, if_true]; rw [if_pos (by omega)]
      simp [f1, f2, f3, f9, hd, lastO, lastS]
      refine dye_Bleach ?_
      by_cases h3 : b + i = 3
      · rw [if_pos h3] at hp
        have hbl : bleachP l' t' (b + i) = ((0, 0, 0), 14) := by simp only [bleachP, hs, if_true]; rw [if_pos h3]
        simp [f1, f2, f3, f9, hbl]
        have := hK _ _ hx (by simp only [pathL, hp]; exact .nil)
        rw [hp] at this
        exact this
      · rw [if_neg h3] at hp
        have hbl : bleachP l' t' (b + i) = ((min (l' + 2) 10, 0, b + i + 1), 0) := by simp only [bleachP, hs, if_true]; rw [if_neg h3]
        obtain ⟨v', H3, a1, a2, a3, a4, a5, a6⟩ := hv.append (lim := lim) (bytes := 24) (x := ⟨min (l' + 2) 10, 0, b + i + 1⟩) (cs := [.int .i64 (min (l' + 2) 10), .int .i64 0, .int .i64 (b + i + 1)]) rfl ⟨hlim, hx.len⟩ (by omega) (by omega)
        simp [f1, f2, f3, f9, hbl, lastO, lastS, a1]
        refine ⟨by omega, _, _, _, _, ⟨⟨rfl, rfl, by omega⟩, rfl⟩, a3 _ hx (Nat.le_refl _), a2, by simp [hal], ?_, ?_⟩
        · simp only [shdB, decide_eq_true_eq]; omega
        · rw [hp, show (4 - b).toNat - (i + 1) = f by omega, show b + ((i : Int) + 1) = b + i + 1 by omega]
          cases pathF lv tn f (min (l' + 2) 10) 0 (b + i + 1) <;> simp
theorem dye_Baths (hlim : lim ≤ H.length) (hK : ∀ H', HX H H' → K (.tup [.int .i64 (pathL l t b lv tn).length, .bool (pathO l t b lv tn).isSome, .int .i64 (pathE l t b lv tn)]) H') : VCall tbl lim 41 [.agg [.int .i64 l, .int .i64 t, .int .i64 b], .int .i64 lv, .int .i64 tn] H K := by
  refine VCall_fn tbl_at41 rfl ?_
  simp [vf41]
  refine dye_Path hlim fun H1 v x1 o1 => ?_
  simp [o1.lst.len, o1.lst.stor]
  exact hK _ x1

/-- all of the first n -/
def allN (f : Nat → Bool) : Nat → Bool
  | 0 => true
  | n + 1 => allN f n && f n
theorem allN_at {f : Nat → Bool} : ∀ {n : Nat}, allN f n = true → ∀ {i : Nat}, i < n → f i = true
  | 0, _, i, hi => by omega
  | n + 1, h, i, hi => by
    simp only [allN, Bool.and_eq_true] at h
    by_cases e : i = n
    · subst e; exact h.2
    · exact allN_at h.1 (by omega)
theorem allN_not {f : Nat → Bool} {n i : Nat} (hi : i < n) (hf : f i = false) : allN f n = false := by
  cases h : allN f n with
  | false => rfl
  | true => rw [allN_at h hi] at hf; cases hf
def lotB (e : Lot) : Bool := shdB e.l e.t e.b && decide (0 ≤ e.w ∧ e.w ≤ 1000)
def wntB (e : Wnt) : Bool := shdB e.l e.t e.b && (decide (0 ≤ e.w ∧ e.w ≤ 1000) && decide (0 ≤ e.n ∧ e.n ≤ 100))
def valP (A : List Lot) (B : List Wnt) : Int := if 6 < A.length ∨ 6 < B.length then 4 else if allN (fun i => lotB (A.getD i default)) A.length = false then 1 else if allN (fun i => wntB (B.getD i default)) B.length = false then 1 else 0

variable {av bv : V} {A : List Lot} {B : List Wnt}
theorem lot_load (h : LstV lotC H av A) {i : Nat} (hi : i < A.length) {L : Lo} : vload (some 4) L H (ept 4 av i) = some (.agg [.int .i64 (A.getD i default).w, .int .i64 (A.getD i default).l, .int .i64 (A.getD i default).t, .int .i64 (A.getD i default).b]) := h.load hi
theorem wnt_load (h : LstV wntC H bv B) {i : Nat} (hi : i < B.length) {L : Lo} : vload (some 5) L H (ept 5 bv i) = some (.agg [.int .i64 (B.getD i default).w, .int .i64 (B.getD i default).l, .int .i64 (B.getD i default).t, .int .i64 (B.getD i default).b, .int .i64 (B.getD i default).n]) := h.load hi
theorem splice44 {a b c d x y z w : V} : splice [a, b, c, d] 0 [x, y, z, w] = [x, y, z, w] := by simp [splice]
theorem splice55 {a b c d e x y z w u : V} : splice [a, b, c, d, e] 0 [x, y, z, w, u] = [x, y, z, w, u] := by simp [splice]
theorem iz4 : ints (zs 4) = [.int .i64 0, .int .i64 0, .int .i64 0, .int .i64 0] := Eq.trans rfl rfl
theorem iz5 : ints (zs 5) = [.int .i64 0, .int .i64 0, .int .i64 0, .int .i64 0, .int .i64 0] := Eq.trans rfl rfl
theorem dye_isWeight {n : Int} (hK : K (.bool (decide (0 ≤ n ∧ n ≤ 1000))) H) : VCall tbl lim 49 [.int .i64 n] H K := by
  refine VCall_fn tbl_at49 rfl ?_
  simp [vf49]
  simpa using hK
theorem dye_Validate (ha : LstV lotC H av A) (hb : LstV wntC H bv B) (hK : K (.int .i64 (valP A B)) H) : VCall tbl lim 58 [av, bv] H K := by
  refine VCall_fn tbl_at58 rfl ?_
  have e1 : decide (6 < (A.length : Int)) = decide (6 < A.length) := by simp only [decide_eq_decide]; omega
  have e2 : decide (6 < (B.length : Int)) = decide (6 < B.length) := by simp only [decide_eq_decide]; omega
  simp [vf58, ha.len, hb.len, e1, e2]
  refine cond_bool (fun h => ?_) fun h => ?_
  · have h : 6 < A.length ∨ 6 < B.length := by simpa using h
    simp; simpa [valP, h] using hK
  have h : ¬ (6 < A.length ∨ 6 < B.length) := by simp at h; omega
  simp only [valP, h, if_false] at hK
  simp [ha.len]
  refine wLoop_up A.length (fun i fr L H' => ∃ X, (fr 1 = bv ∧ fr 17 = av ∧ fr 18 = .int .i64 A.length ∧ fr 19 = .int .i64 i) ∧ L = X ∧ H' = H ∧ allN (fun i => lotB (A.getD i default)) i = true) ⟨[], by simp [ha.len], rfl, rfl, rfl⟩ ?_
  rintro i hi fr L H' ⟨X, ⟨f1, f17, f18, f19⟩, rfl, e0, hz⟩
  have e0 := e0.symm
  subst e0
  simp [f1, f17, f18, f19]
  refine cond_dec (fun ht => ?_) fun hfl => ?_
  · have ht : i < A.length := by omega
    simp (disch := omega) [f1, f17, f18, f19, ha.addr, lot_load ha, lastO, lastS, splice44, iz4]
    refine dye_ValidShade ?_
    by_cases hs : shdB (A.getD i default).l (A.getD i default).t (A.getD i default).b = true
    · simp [f1, f17, f18, f19, hs]
      refine dye_isWeight ?_
      by_cases hw : 0 ≤ (A.getD i default).w ∧ (A.getD i default).w ≤ 1000
      · have e : lotB (A.getD i default) = true := by simp [lotB, hs, hw]
        simp (disch := omega) [f1, f17, f18, f19, hw, wrap_i64, allN, e, hz]
        omega
      · have := allN_not (f := fun i => lotB (A.getD i default)) ht (by simp [lotB, hw])
        simp only [this, if_true] at hK
        simp [hw]
        exact hK
    · have := allN_not (f := fun i => lotB (A.getD i default)) ht (by simp [lotB, hs])
      simp only [this, if_true] at hK
      simp [hs]
      exact hK
  have : i = A.length := by omega
  subst this
  simp only [hz, Bool.true_eq_false, if_false] at hK
  simp [f1, hb.len]
  refine wLoop_up B.length (fun i fr L H' => ∃ X, (fr 34 = bv ∧ fr 35 = .int .i64 B.length ∧ fr 36 = .int .i64 i) ∧ L = X ∧ H' = H ∧ allN (fun i => wntB (B.getD i default)) i = true) ⟨L, by simp [hb.len], rfl, rfl, rfl⟩ ?_
  clear f1 f17 f18 f19
  rintro i hi fr L H' ⟨X, ⟨f34, f35, f36⟩, rfl, e0, hz2⟩
  have e0 := e0.symm
  subst e0
  simp [f34, f35, f36]
  refine cond_dec (fun ht => ?_) fun hfl => ?_
  · have ht : i < B.length := by omega
    simp (disch := omega) [f34, f35, f36, hb.addr, wnt_load hb, lastO, lastS, splice55, iz5]
    refine dye_ValidShade ?_
    by_cases hs : shdB (B.getD i default).l (B.getD i default).t (B.getD i default).b = true
    · simp [f34, f35, f36, hs]
      refine dye_isWeight ?_
      by_cases hw : 0 ≤ (B.getD i default).w ∧ (B.getD i default).w ≤ 1000
      · simp [f34, f35, f36, hw]
        refine cond_bool (fun hn => ?_) fun hn => ?_
        · have hn : ¬ (0 ≤ (B.getD i default).n ∧ (B.getD i default).n ≤ 100) := by simp at hn; omega
          have := allN_not (f := fun i => wntB (B.getD i default)) ht (by simp only [wntB, hn, decide_false, Bool.and_false])
          simp only [this, if_true] at hK
          simp
          exact hK
        · have hn : 0 ≤ (B.getD i default).n ∧ (B.getD i default).n ≤ 100 := by simp at hn; omega
          have e : wntB (B.getD i default) = true := by simp [wntB, hs, hw, hn]
          simp (disch := omega) [f34, f35, f36, wrap_i64, allN, e, hz2]
          omega
      · have := allN_not (f := fun i => wntB (B.getD i default)) ht (by simp only [wntB, hw, decide_false, Bool.and_false, Bool.false_and])
        simp only [this, if_true] at hK
        simp [hw]
        exact hK
    · have := allN_not (f := fun i => wntB (B.getD i default)) ht (by simp [wntB, hs])
      simp only [this, if_true] at hK
      simp [hs]
      exact hK
  have : i = B.length := by omega
  subst this
  simp only [hz2, Bool.true_eq_false, if_false] at hK
  simp
  exact hK
end
end Go.Proofs.Ytkmcdiajcnejiaa.Vm
