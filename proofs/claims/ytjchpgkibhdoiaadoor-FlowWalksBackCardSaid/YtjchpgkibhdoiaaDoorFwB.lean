/- Walks along paths over the machine: FlowWalks. -/
import Derived.Test.YtjchpgkibhdoiaaDoorFwA
import Derived.Test.YtjchpgkibhdoiaaDoorVmDoor
namespace Go.Proofs.YtjchpgkibhdoiaaDoor.Vm
open Go
set_option maxRecDepth 100000
set_option linter.unusedSimpArgs false
set_option linter.unusedVariables false
attribute [-simp] List.getD_eq_getElem?_getD

def tabS : List V := [.int .i64 1, .int .i64 0, .int .i64 1, .int .i64 1, .int .i64 0, .int .i64 1, .int .i64 (-1), .int .i64 1, .int .i64 (-1), .int .i64 0, .int .i64 (-1), .int .i64 (-1), .int .i64 0, .int .i64 (-1), .int .i64 1, .int .i64 (-1)]
theorem steps_at {H : Hp} (hg : HX glHp H) : H[0]? = some (.row tabS false) := hg.get (b := 0) rfl
theorem plC_def {e : Pl} : plC.cells e = [.int .i64 e.x, .int .i64 e.y] := Eq.trans rfl rfl
def sideV : Option (Ed × Int) → V
  | some (e, s) => .tup [.agg [.int .i64 e.x, .int .i64 e.y, .int .i64 e.u, .int .i64 s], .bool true]
  | none => .tup [.agg [.int .i64 0, .int .i64 0, .int .i64 0, .int .i64 0], .bool false]
def Nar (a : Pl) : Prop := -1000 ≤ a.x ∧ a.x ≤ 1000 ∧ -1000 ≤ a.y ∧ a.y ≤ 1000
theorem inPl_nar {W Q : Int} {a : Pl} (hW : W ≤ 12) (hQ : Q ≤ 12) (h : inPl W Q a = true) : Nar a := by
  simp only [inPl, decide_eq_true_eq] at h
  unfold Nar; omega
section
variable {lim : Nat} {H : Hp} {K : V → Hp → Prop} {v d p : V} {D : List Int} {P : List Ed} {W Q x y u : Int} {w q : Nat}
theorem flow_isPlaceP {a : Pl} (hd : Vm.stor d = true) (hp : Vm.stor p = true) (hK : K (.bool (inPl W Q a)) H) : VCall tbl lim 38 [.agg [.int .i64 W, .int .i64 Q, d, p], .int .i64 a.x, .int .i64 a.y] H K := flow_isPlace hd hp hK
theorem flow_between {a b : Pl} (hg : HX glHp H) (ha : Nar a) (hb : Nar b) (hK : K (sideV (stE a b)) H) : VCall tbl lim 39 [.agg [.int .i64 a.x, .int .i64 a.y], .agg [.int .i64 b.x, .int .i64 b.y]] H K := by
  refine VCall_fn tbl_at39 rfl ?_
  unfold Nar at ha hb
  have hs := steps_at hg
  have r0 : rd (some 2) tabS 0 = some (.agg [.int .i64 1, .int .i64 0]) := rfl
  have r4 : rd (some 2) tabS 4 = some (.agg [.int .i64 0, .int .i64 1]) := rfl
  have r8 : rd (some 2) tabS 8 = some (.agg [.int .i64 (-1), .int .i64 0]) := rfl
  have r12 : rd (some 2) tabS 12 = some (.agg [.int .i64 0, .int .i64 (-1)]) := rfl
  simp (disch := omega) [vf39, wrap_i64, hs, r0, veqA_2, z4]
  refine cond_bool (fun h => ?_) fun h => ?_
  · have h : b.x - a.x = 1 ∧ b.y - a.y = 0 := by simpa using h
    have e : stE a b = some (⟨a.x, a.y, 0⟩, 1) := by unfold stE; rw [if_pos h]
    simp [z4]
    rw [e] at hK; exact hK
  have n1 : ¬ (b.x - a.x = 1 ∧ b.y - a.y = 0) := by simpa using h
  clear h
  simp (disch := omega) [hs, r4, veqA_2, z4]
  refine cond_bool (fun h => ?_) fun h => ?_
  · have h : b.x - a.x = 0 ∧ b.y - a.y = 1 := by simpa using h
    have e : stE a b = some (⟨a.x, a.y, 1⟩, 1) := by unfold stE; rw [if_neg n1, if_pos h]
    simp [z4]
    rw [e] at hK; exact hK
  have n2 : ¬ (b.x - a.x = 0 ∧ b.y - a.y = 1) := by simpa using h
  clear h
  simp (disch := omega) [hs, r8, veqA_2, z4]
  refine cond_bool (fun h => ?_) fun h => ?_
  · have h : b.x - a.x = -1 ∧ b.y - a.y = 0 := by simpa using h
    have e : stE a b = some (⟨b.x, b.y, 0⟩, -1) := by unfold stE; rw [if_neg n1, if_neg n2, if_pos h]
    simp [z4]
    rw [e] at hK; exact hK
  have n3 : ¬ (b.x - a.x = -1 ∧ b.y - a.y = 0) := by simpa using h
  clear h
  simp (disch := omega) [hs, r12, veqA_2, z4]
  refine cond_bool (fun h => ?_) fun h => ?_
  · have h : b.x - a.x = 0 ∧ b.y - a.y = -1 := by simpa using h
    have e : stE a b = some (⟨b.x, b.y, 1⟩, -1) := by unfold stE; rw [if_neg n1, if_neg n2, if_neg n3, if_pos h]
    simp [z4]
    rw [e] at hK; exact hK
  have n4 : ¬ (b.x - a.x = 0 ∧ b.y - a.y = -1) := by simpa using h
  have e : stE a b = none := by unfold stE; rw [if_neg n1, if_neg n2, if_neg n3, if_neg n4]
  simp [z4]
  rw [e] at hK; exact hK
theorem ref_isPlace (hd : Vm.stor d = true) (hp : Vm.stor p = true) (hW : 1 ≤ W ∧ W ≤ 12) (hQ : 1 ≤ Q ∧ Q ≤ 12) (hK : K (.bool (decide (0 ≤ x ∧ x < W ∧ 0 ≤ y ∧ y < Q))) H) : VCall tbl lim 41 [.agg [.int .i64 W, .int .i64 Q, d, p], .int .i64 x, .int .i64 y] H K := by
  refine VCall_fn tbl_at41 rfl ?_
  have e : decide (0 ≤ x ∧ x < W ∧ 0 ≤ y ∧ y < Q) = (decide (0 ≤ x ∧ x ≤ W - 1) && decide (0 ≤ y ∧ y ≤ Q - 1)) := by
    rw [Bool.eq_iff_iff]; simp; omega
  rw [e] at hK
  simp (disch := omega) [vf41, hd, hp, wrap_i64]
  refine ref_within ?_
  by_cases h1 : 0 ≤ x ∧ x ≤ W - 1
  · simp (disch := omega) [h1, wrap_i64]
    refine ref_within ?_
    simp [h1] at hK
    simpa using hK
  · simp (disch := omega) [h1, wrap_i64]
    simpa [h1] using hK
theorem ref_isPlaceP {a : Pl} (hd : Vm.stor d = true) (hp : Vm.stor p = true) (hW : 1 ≤ W ∧ W ≤ 12) (hQ : 1 ≤ Q ∧ Q ≤ 12) (hK : K (.bool (inPl W Q a)) H) : VCall tbl lim 41 [.agg [.int .i64 W, .int .i64 Q, d, p], .int .i64 a.x, .int .i64 a.y] H K := ref_isPlace hd hp hW hQ hK
def stV : Option Int → V
  | some n => .tup [.int .i64 n, .bool true]
  | none => .tup [.int .i64 0, .bool false]
theorem ref_step {a b : Pl} (hd : SlV H d D) (hp : EdV H p P) (hf : PreF w q D P) (ha : inPl w q a = true) (hb : inPl w q b = true) (hK : K (stV (stP w D P a b)) H) : VCall tbl lim 42 [.agg [.int .i64 w, .int .i64 q, d, p], .agg [.int .i64 a.x, .int .i64 a.y], .agg [.int .i64 b.x, .int .i64 b.y]] H K := by
  refine VCall_fn tbl_at42 rfl ?_
  have hw1 := hf.w1
  have hq1 := hf.q1
  have na := inPl_nar (by omega) (by omega) ha
  have nb := inPl_nar (by omega) (by omega) hb
  unfold Nar at na nb
  simp (disch := omega) [vf42, hd.stor, hp.stor, wrap_i64]
  have go : ∀ {e : Ed} {s : Int}, stE a b = some (e, s) → isEB w q e.x e.y e.u = true ∧ stP w D P a b = some (s * tnP w D P e.x e.y e.u) := fun {e s} h => ⟨(stE_ed h ha hb).1, by unfold stP; rw [h]⟩
  refine cond_bool (fun h => ?_) fun h => ?_
  · have h : b.x - a.x = 1 ∧ b.y - a.y = 0 := by simpa using h
    have e : stE a b = some (⟨a.x, a.y, 0⟩, 1) := by unfold stE; rw [if_pos h]
    obtain ⟨g1, g2⟩ := go e
    simp [hd.stor, hp.stor]
    refine ref_turning hd hp hf g1 ?_
    simp
    rw [g2, Int.one_mul] at hK; exact hK
  have n1 : ¬ (b.x - a.x = 1 ∧ b.y - a.y = 0) := by simpa using h
  clear h
  simp
  refine cond_bool (fun h => ?_) fun h => ?_
  · have h : b.x - a.x = -1 ∧ b.y - a.y = 0 := by simpa using h
    have e : stE a b = some (⟨b.x, b.y, 0⟩, -1) := by unfold stE; rw [if_neg n1, if_neg (by omega), if_pos h]
    obtain ⟨g1, g2⟩ := go e
    have hb := tnP_bd (w := w) (D := D) (P := P) (x := b.x) (y := b.y) (u := 0)
    simp [hd.stor, hp.stor]
    refine ref_turning hd hp hf g1 ?_
    simp (disch := omega) [wrap_i64]
    rw [g2] at hK
    have e2 : -1 * tnP w D P b.x b.y 0 = -tnP w D P b.x b.y 0 := by omega
    rw [e2] at hK; exact hK
  have n2 : ¬ (b.x - a.x = -1 ∧ b.y - a.y = 0) := by simpa using h
  clear h
  simp
  refine cond_bool (fun h => ?_) fun h => ?_
  · have h : b.x - a.x = 0 ∧ b.y - a.y = 1 := by simpa using h
    have e : stE a b = some (⟨a.x, a.y, 1⟩, 1) := by unfold stE; rw [if_neg n1, if_pos h]
    obtain ⟨g1, g2⟩ := go e
    simp [hd.stor, hp.stor]
    refine ref_turning hd hp hf g1 ?_
    simp
    rw [g2, Int.one_mul] at hK; exact hK
  have n3 : ¬ (b.x - a.x = 0 ∧ b.y - a.y = 1) := by simpa using h
  clear h
  simp
  refine cond_bool (fun h => ?_) fun h => ?_
  · have h : b.x - a.x = 0 ∧ b.y - a.y = -1 := by simpa using h
    have e : stE a b = some (⟨b.x, b.y, 1⟩, -1) := by unfold stE; rw [if_neg n1, if_neg n3, if_neg n2, if_pos h]
    obtain ⟨g1, g2⟩ := go e
    have hb := tnP_bd (w := w) (D := D) (P := P) (x := b.x) (y := b.y) (u := 1)
    simp [hd.stor, hp.stor]
    refine ref_turning hd hp hf g1 ?_
    simp (disch := omega) [wrap_i64]
    rw [g2] at hK
    have e2 : -1 * tnP w D P b.x b.y 1 = -tnP w D P b.x b.y 1 := by omega
    rw [e2] at hK; exact hK
  have n4 : ¬ (b.x - a.x = 0 ∧ b.y - a.y = -1) := by simpa using h
  have e : stP w D P a b = none := by unfold stP stE; rw [if_neg n1, if_neg n3, if_neg n2, if_neg n4]
  simp
  rw [e] at hK; exact hK
theorem inOk_all {l : List Pl} (h : allN (inOk W Q l) l.length = true) {i : Nat} (hi : i < l.length) : inPl W Q (l.getD i default) = true := allN_at h hi
theorem flow_Walk {pv : V} {l : List Pl} (hg : HX glHp H) (hd : SlV H d D) (hp : EdV H p P) (hpv : LstV plC H pv l) (hW : I64 W) (hQ : I64 Q) (hl : D.length ≤ 1000 ∧ P.length ≤ 1000) (hn : l.length ≤ 2000) (hlim : lim ≤ H.length)
    (hK : ∀ H', HX H H' → K (.tup [.int .i64 (wkP W Q D P l).1, .int .i64 (wkP W Q D P l).2]) H') : VCall tbl lim 13 [.agg [.int .i64 W, .int .i64 Q, d, p], pv] H K := by
  refine VCall_fn tbl_at13 rfl ?_
  simp [vf13, hd.stor, hp.stor]
  refine flow_Validate hd hp hW hQ hl hlim fun H1 x1 => ?_
  replace x1 : HX H H1 := x1
  have l1 := x1.len
  simp
  refine cond_ndec (fun h => ?_) fun h => ?_
  · simp
    have := hK _ x1
    simp only [wkP, if_neg h] at this; exact this
  obtain ⟨w, q, rfl, rfl, hf⟩ := valid_pre h
  have hw1 := hf.w1
  have hq1 := hf.q1
  simp only [wkP, if_pos h, Int.toNat_natCast] at hK
  have hd1 := hd.mono x1
  have hp1 := hp.mono x1
  have hpv1 := hpv.mono x1
  simp [hpv.len]
  refine cond_dec (fun h1 => ?_) fun h1 => ?_
  · have h1 : 1000 < l.length := by omega
    rw [if_pos h1] at hK
    simp
    exact hK _ x1
  have h1 : ¬ 1000 < l.length := by omega
  rw [if_neg h1] at hK
  simp [hpv.len]
  refine wLoop_up l.length (fun i fr L H' => ∃ X, (fr 1 = pv ∧ fr 2 = .lp 0 0 ∧ fr 21 = pv ∧ fr 22 = .int .i64 l.length ∧ fr 23 = .int .i64 i) ∧ L = [.int .i64 w, .int .i64 q, d, p] :: X ∧ H' = H1 ∧ allN (inOk w q l) i = true) ⟨[], by simp, rfl, rfl, rfl⟩ ?_
  rintro i hi fr L H' ⟨X, ⟨f1, f2, f21, f22, f23⟩, rfl, e0, hb⟩
  have e0 := e0.symm
  subst e0
  simp [f1, f2, f21, f22, f23]
  refine cond_dec (fun ht => ?_) fun hfl => ?_
  · have ht : i < l.length := by omega
    have ad := hpv1.at ht
    have ld : ∀ L, vload (some 2) L H1 (ept 2 pv i) = some (.agg [.int .i64 (l.getD i default).x, .int .i64 (l.getD i default).y]) := fun L => hpv1.load ht
    simp [f1, f2, f21, f22, f23, ad, ld, lastO, lastS, hd.stor, hp.stor]
    refine flow_isPlaceP hd.stor hp.stor ?_
    simp
    refine cond_bool (fun h2 => ?_) fun h2 => ?_
    · have ok : inOk w q l i = false := by
        have h3 : inPl w q (l.getD i default) = false := by simpa using h2
        exact h3
      rw [if_pos (allN_not (f := inOk w q l) ht ok)] at hK
      simp
      exact hK _ x1
    · have ok : inOk w q l i = true := by
        have h3 : inPl w q (l.getD i default) = true := by simpa using h2
        exact h3
      simp (disch := omega) [f1, f2, f21, f22, f23, wrap_i64, allN, hb, ok]
      exact ht
  have : i = l.length := by omega
  subst this
  have hb2 : ¬ allN (inOk w q l) l.length = false := by rw [hb]; simp
  rw [if_neg hb2] at hK
  simp [f1, f2]
  clear f21 f22 f23
  refine wLoop_up (l.length - 1) (fun i fr L H' => ∃ X s, (fr 1 = pv ∧ fr 2 = .lp 0 0 ∧ fr 9 = .int .i64 s ∧ fr 10 = .int .i64 ((i : Int) + 1)) ∧ L = [.int .i64 w, .int .i64 q, d, p] :: X ∧ H' = H1 ∧ wkS w D P l i = some s) ⟨X, 0, by simp [f1, f2], rfl, rfl, rfl⟩ ?_
  clear f1 f2
  rintro i hi fr L H' ⟨X, s, ⟨f1, f2, f9, f10⟩, rfl, e0, hs⟩
  have e0 := e0.symm
  subst e0
  have bs := wkS_bd hs
  simp [f1, f2, f9, f10, hpv1.len]
  refine cond_dec (fun ht => ?_) fun hfl => ?_
  · have ht : i + 1 < l.length := by omega
    have ad0 := hpv1.at (i := i) (by omega)
    have ad1 := hpv1.at (i := i + 1) ht
    have ld0 : ∀ L, vload (some 2) L H1 (ept 2 pv i) = some (.agg [.int .i64 (l.getD i default).x, .int .i64 (l.getD i default).y]) := fun L => hpv1.load (by omega)
    have ld1 : ∀ L, vload (some 2) L H1 (ept 2 pv (i + 1)) = some (.agg [.int .i64 (l.getD (i + 1) default).x, .int .i64 (l.getD (i + 1) default).y]) := fun L => hpv1.load ht
    have i0 := inOk_all hb (i := i) (by omega)
    have i1 := inOk_all hb (i := i + 1) ht
    have ei : (i : Int) + 1 - 1 = (i : Int) := by omega
    have ej : ((i + 1 : Nat) : Int) = (i : Int) + 1 := by omega
    rw [ej] at ad1
    generalize ea : l.getD i default = a at *
    generalize eb : l.getD (i + 1) default = b at *
    simp (disch := omega) [f1, f2, f9, f10, wrap_i64, ei, ad0, ld0, ad1, ld1]
    refine flow_between (hg.trans x1) (inPl_nar (by omega) (by omega) i0) (inPl_nar (by omega) (by omega) i1) ?_
    cases hst : stE a b with
    | none =>
      have hn : wkS w D P l (l.length - 1) = none := wkS_none (n := i) (by rw [ea, eb]; unfold stP; rw [hst]) (by omega)
      simp [sideV, z4, f1, f2, f9, f10]
      rw [hn] at hK
      exact hK _ x1
    | some es =>
      obtain ⟨e, s1⟩ := es
      obtain ⟨g1, g2⟩ := stE_ed hst i0 i1
      have hb := tnP_bd (w := w) (D := D) (P := P) (x := e.x) (y := e.y) (u := e.u)
      have hsp : stP w D P a b = some (s1 * tnP w D P e.x e.y e.u) := by unfold stP; rw [hst]
      have bt := stP_bd hsp
      have hsn : wkS w D P l (i + 1) = some (s + s1 * tnP w D P e.x e.y e.u) := by simp only [wkS, hs, ea, eb, hsp]
      simp [sideV, z4, f1, f2, f9, f10, hd.stor, hp.stor]
      refine flow_turning hd1 hp1 hf g1 ?_
      have wp : IntKind.i64.wrap (s1 * tnP w D P e.x e.y e.u) = s1 * tnP w D P e.x e.y e.u := wrap_i64 (by omega) (by omega)
      simp (disch := omega) [f1, f2, f9, f10, wrap_i64, wp]
      exact ⟨by omega, hsn⟩
  · have : i = l.length - 1 := by omega
    subst this
    rw [hs] at hK
    simp [f9]
    exact hK _ x1
theorem ref_Walk {pv : V} {l : List Pl} (hd : SlV H d D) (hp : EdV H p P) (hpv : LstV plC H pv l) (hW : I64 W) (hQ : I64 Q) (hl : D.length ≤ 1000 ∧ P.length ≤ 1000) (hn : l.length ≤ 2000) (hlim : lim ≤ H.length)
    (hK : ∀ H', HX H H' → K (.tup [.int .i64 (wkP W Q D P l).1, .int .i64 (wkP W Q D P l).2]) H') : VCall tbl lim 14 [.agg [.int .i64 W, .int .i64 Q, d, p], pv] H K := by
  refine VCall_fn tbl_at14 rfl ?_
  simp [vf14, hd.stor, hp.stor]
  refine ref_Validate hd hp hW hQ hl hlim fun H1 x1 => ?_
  replace x1 : HX H H1 := x1
  have l1 := x1.len
  simp
  refine cond_ndec (fun h => ?_) fun h => ?_
  · simp
    have := hK _ x1
    simp only [wkP, if_neg h] at this; exact this
  obtain ⟨w, q, rfl, rfl, hf⟩ := valid_pre h
  have hw1 := hf.w1
  have hq1 := hf.q1
  simp only [wkP, if_pos h, Int.toNat_natCast] at hK
  have hd1 := hd.mono x1
  have hp1 := hp.mono x1
  have hpv1 := hpv.mono x1
  simp [hpv.len]
  refine cond_dec (fun h1 => ?_) fun h1 => ?_
  · have h1 : 1000 < l.length := by omega
    rw [if_pos h1] at hK
    simp
    exact hK _ x1
  have h1 : ¬ 1000 < l.length := by omega
  rw [if_neg h1] at hK
  simp
  refine wLoop_up l.length (fun i fr L H' => (fr 1 = pv ∧ fr 2 = .lp 0 0 ∧ fr 7 = .int .i64 i) ∧ L = [[.int .i64 w, .int .i64 q, d, p]] ∧ H' = H1 ∧ allN (inOk w q l) i = true) ⟨by simp, rfl, rfl, rfl⟩ ?_
  rintro i hi fr L H' ⟨⟨f1, f2, f7⟩, rfl, e0, hb⟩
  have e0 := e0.symm
  subst e0
  simp [f1, f2, f7, hpv.len]
  refine cond_dec (fun ht => ?_) fun hfl => ?_
  · have ht : i < l.length := by omega
    have ad := hpv1.at ht
    have fa0 : vfaddr 0 (ept 2 pv i) = some (eptf 2 pv i 0) := hpv1.faddr ht
    have fa1 : vfaddr 1 (ept 2 pv i) = some (eptf 2 pv i 1) := hpv1.faddr ht
    have ld0 : ∀ L, vload none L H1 (eptf 2 pv i 0) = some (.int .i64 (l.getD i default).x) := fun L => hpv1.rd1 ht (by omega)
    have ld1 : ∀ L, vload none L H1 (eptf 2 pv i 1) = some (.int .i64 (l.getD i default).y) := fun L => hpv1.rd1 ht (by omega)
    simp [f1, f2, f7, ad, fa0, fa1, ld0, ld1, hd.stor, hp.stor]
    refine ref_isPlaceP hd.stor hp.stor (by omega) (by omega) ?_
    simp
    refine cond_bool (fun h2 => ?_) fun h2 => ?_
    · have ok : inOk w q l i = false := by
        have h3 : inPl w q (l.getD i default) = false := by simpa using h2
        exact h3
      rw [if_pos (allN_not (f := inOk w q l) ht ok)] at hK
      simp
      exact hK _ x1
    · have ok : inOk w q l i = true := by
        have h3 : inPl w q (l.getD i default) = true := by simpa using h2
        exact h3
      simp (disch := omega) [f1, f2, f7, wrap_i64, allN, hb, ok]
      exact ht
  have : i = l.length := by omega
  subst this
  have hb2 : ¬ allN (inOk w q l) l.length = false := by rw [hb]; simp
  rw [if_neg hb2] at hK
  simp [f1, f2]
  clear f7
  refine wLoop_up (l.length - 1) (fun i fr L H' => ∃ s, (fr 1 = pv ∧ fr 2 = .lp 0 0 ∧ fr 8 = .int .i64 s ∧ fr 9 = .int .i64 ((i : Int) + 1)) ∧ L = [[.int .i64 w, .int .i64 q, d, p]] ∧ H' = H1 ∧ wkS w D P l i = some s) ⟨0, by simp [f1, f2], rfl, rfl, rfl⟩ ?_
  clear f1 f2
  rintro i hi fr L H' ⟨s, ⟨f1, f2, f8, f9⟩, rfl, e0, hs⟩
  have e0 := e0.symm
  subst e0
  have bs := wkS_bd hs
  simp [f1, f2, f8, f9, hpv1.len]
  refine cond_dec (fun ht => ?_) fun hfl => ?_
  · have ht : i + 1 < l.length := by omega
    have ad0 := hpv1.at (i := i) (by omega)
    have ad1 := hpv1.at (i := i + 1) ht
    have ld0 : ∀ L, vload (some 2) L H1 (ept 2 pv i) = some (.agg [.int .i64 (l.getD i default).x, .int .i64 (l.getD i default).y]) := fun L => hpv1.load (by omega)
    have ld1 : ∀ L, vload (some 2) L H1 (ept 2 pv (i + 1)) = some (.agg [.int .i64 (l.getD (i + 1) default).x, .int .i64 (l.getD (i + 1) default).y]) := fun L => hpv1.load ht
    have i0 := inOk_all hb (i := i) (by omega)
    have i1 := inOk_all hb (i := i + 1) ht
    have ei : (i : Int) + 1 - 1 = (i : Int) := by omega
    have ej : ((i + 1 : Nat) : Int) = (i : Int) + 1 := by omega
    rw [ej] at ad1
    generalize ea : l.getD i default = a at *
    generalize eb : l.getD (i + 1) default = b at *
    simp (disch := omega) [f1, f2, f8, f9, wrap_i64, ei, ad0, ld0, ad1, ld1, hd.stor, hp.stor]
    refine ref_step hd1 hp1 hf i0 i1 ?_
    cases hst : stP w D P a b with
    | none =>
      have hn : wkS w D P l (l.length - 1) = none := wkS_none (n := i) (by rw [ea, eb]; exact hst) (by omega)
      simp [stV, f1, f2, f8, f9]
      rw [hn] at hK
      exact hK _ x1
    | some t =>
      have bt := stP_bd hst
      have hsn : wkS w D P l (i + 1) = some (s + t) := by simp only [wkS, hs, ea, eb, hst]
      simp (disch := omega) [stV, f1, f2, f8, f9, wrap_i64]
      exact ⟨by omega, hsn⟩
  · have : i = l.length - 1 := by omega
    subst this
    rw [hs] at hK
    simp [f8]
    exact hK _ x1
theorem law_FlowWalks {ws : List V} {f : Fld} {pv : V} {l : List Pl} (hv : FldV H ws f) (hpv : LstV plC H pv l) (hg : HX glHp H) (hlim : lim ≤ H.length) (hK : ∀ H', K (.bool true) H') : VCall tbl lim 3 [.agg ws, pv] H K := by
  cases hv with
  | mk hW hQ hd hp hD =>
    rename_i d p W Q D P
    refine VCall_fn tbl_at3 rfl ?_
    simp [vf3, hd.stor, hp.stor, hpv.stor]
    refine fl_Long hd hp ?_
    by_cases c1 : 400 < D.length ∨ 200 < P.length
    · simp [c1]
      refine fl_known hlim fun H1 _ => ?_
      simp; exact hK _
    simp [c1, hpv.len]
    refine cond_dec (fun h => ?_) fun h => ?_
    · simp
      refine fl_known hlim fun H1 _ => ?_
      simp; exact hK _
    simp [hd.stor, hp.stor, hpv.stor]
    refine flow_Walk hg hd hp hpv hW hQ (by omega) (by omega) hlim fun H1 x1 => ?_
    replace x1 : HX H H1 := x1
    have l1 := x1.len
    simp [hd.stor, hp.stor, hpv.stor]
    refine ref_Walk (hd.mono x1) (hp.mono x1) (hpv.mono x1) hW hQ (by omega) (by omega) (by omega) fun H2 x2 => ?_
    replace x2 : HX H1 H2 := x2
    have l2 := x2.len
    simp
    refine fl_known (by omega) fun H3 _ => ?_
    simp; exact hK _
end
end Go.Proofs.YtjchpgkibhdoiaaDoor.Vm
