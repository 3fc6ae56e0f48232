/- Package dye over the machine: mixtures; DyeMixes. -/
import Derived.Test.YtkmcdiajcnejiaaBlJ
namespace Go.Proofs.Ytkmcdiajcnejiaa.Vm
open Go
set_option maxRecDepth 100000
set_option maxHeartbeats 1000000
set_option linter.unusedSimpArgs false
set_option linter.unusedVariables false
attribute [-simp] List.getD_eq_getElem?_getD
theorem rd4n1 {a b c d : V} : rd none [a, b, c, d] 1 = some b := Eq.trans rfl rfl
theorem rd4n2 {a b c d : V} : rd none [a, b, c, d] 2 = some c := Eq.trans rfl rfl
theorem rd4n3 {a b c d : V} : rd none [a, b, c, d] 3 = some d := Eq.trans rfl rfl
attribute [local simp] rd4n1 rd4n2 rd4n3
structure Mxt where
  a : List Prt
  b : List Prt
  x : Int
  y : Int
inductive MxtV (H : Hp) : List V → Mxt → Prop
  | mk {va vb : V} {a b : List Prt} {x y : Int} : LstV prC H va a → LstV prC H vb b → I64 x → I64 y → MxtV H [va, vb, .int .i64 x, .int .i64 y] ⟨a, b, x, y⟩
theorem mxt_of {H : Hp} {ws : List V} {ds : List CD} (h : RepTs H [.sl [cInt, cInt, cInt, cInt], .sl [cInt, cInt, cInt, cInt], cInt, cInt] ws ds) : ∃ f, MxtV H ws f := by
  obtain ⟨v0, u0, _, _, rfl, _, p0, q0⟩ := reps_cons h
  obtain ⟨v1, u1, _, _, rfl, _, p1, q1⟩ := reps_cons q0
  obtain ⟨v2, u2, _, _, rfl, _, p2, q2⟩ := reps_cons q1
  obtain ⟨v3, u3, _, _, rfl, _, p3, q3⟩ := reps_cons q2
  have e := reps_nil q3
  subst e
  obtain ⟨a, ha⟩ := pts_of p0
  obtain ⟨b, hb⟩ := pts_of p1
  obtain ⟨n2, rfl, c2⟩ := int_of p2
  obtain ⟨n3, rfl, c3⟩ := int_of p3
  exact ⟨⟨a, b, n2, n3⟩, .mk ha hb c2 c3⟩
def bothE (a b : List Prt) : Int := if blP a ≠ 0 then blP a else blP b
theorem bothE_ok {a b : List Prt} (h : bothE a b = 0) : blP a = 0 ∧ blP b = 0 := by
  unfold bothE at h
  split at h
  · rename_i h1; exact absurd h h1
  · rename_i h1; exact ⟨Classical.not_not.1 h1, h⟩
def badM (x y : Int) : Prop := ¬ (0 ≤ x ∧ x ≤ 1000) ∨ ¬ (0 ≤ y ∧ y ≤ 1000) ∨ x + y = 0
instance {x y : Int} : Decidable (badM x y) := by unfold badM; infer_instance
def mixP (a : List Prt) (x : Int) (b : List Prt) (y : Int) : List Prt × Int :=
  if bothE a b ≠ 0 then ([], bothE a b) else if badM x y then ([], 1) else nrmP (canN (mixW a (x * totP b) b (y * totP a)) 240)
theorem nrmP_len {l : List Prt} : (nrmP l).1.length ≤ 6 := by
  unfold nrmP
  split
  · simp
  · split
    · simp; omega
    · simp
theorem mixP_len {a b : List Prt} {x y : Int} : (mixP a x b y).1.length ≤ 6 := by
  unfold mixP
  split
  · simp
  · split
    · simp
    · exact nrmP_len
theorem mixP_comm {a b : List Prt} {x y : Int} (h : (mixP a x b y).2 = 0) : mixP b y a x = mixP a x b y := by
  have h1 : bothE a b = 0 := by
    apply Classical.byContradiction
    intro hn
    unfold mixP at h
    rw [if_pos hn] at h
    exact hn h
  have h3 : ¬ badM x y := by
    intro hn
    unfold mixP at h
    rw [if_neg (fun hh => hh h1), if_pos hn] at h
    simp at h
  obtain ⟨ha, hb⟩ := bothE_ok h1
  have h2 : bothE b a = 0 := by unfold bothE; rw [if_neg (fun hh => hh hb)]; exact ha
  have h4 : ¬ badM y x := by
    intro hh
    apply h3
    unfold badM at hh ⊢
    omega
  have e1 : mixP b y a x = nrmP (canN (mixW b (y * totP a) a (x * totP b)) 240) := by unfold mixP; rw [if_neg (fun hh => hh h2), if_neg h4]
  have e2 : mixP a x b y = nrmP (canN (mixW a (x * totP b) b (y * totP a)) 240) := by unfold mixP; rw [if_neg (fun hh => hh h1), if_neg h3]
  have : mixW b (y * totP a) a (x * totP b) = mixW a (x * totP b) b (y * totP a) := funext fun i => by unfold mixW; exact Int.add_comm _ _
  rw [e1, e2, this]
theorem tot_rng {l : List Prt} (h : blP l = 0) : 0 ≤ totP l ∧ totP l ≤ 6000 := by
  obtain ⟨h1, h2, h3⟩ := blP_ok h
  have key : ∀ n, n ≤ l.length → 0 ≤ totN l n ∧ totN l n ≤ 1000 * n := fun n => by
    induction n with
    | zero => intro _; simp [totN]
    | succ n ih =>
      intro hn
      have := ih (by omega)
      have := h3 n (by omega)
      simp only [totN]; omega
  have := key l.length (Nat.le_refl _)
  unfold totP
  omega
theorem mul_tot {x t : Int} (hx : 0 ≤ x ∧ x ≤ 1000) (ht : 0 ≤ t ∧ t ≤ 6000) : 0 ≤ x * t ∧ x * t ≤ 10000000 := by
  refine ⟨Int.mul_nonneg hx.1 ht.1, ?_⟩
  exact Int.le_trans (Int.mul_le_mul_of_nonneg_right hx.2 ht.1) (by omega)
def scW (x : Int) (p : Prt) : Prt := ⟨p.l, p.t, p.b, p.w * x⟩
def scN (x : Int) (l : List Prt) (i : Nat) : List Prt := (l.take i).map (scW x)
theorem scN_succ {x : Int} {l : List Prt} {i : Nat} (h : i < l.length) : scN x l (i + 1) = scN x l i ++ [scW x (l.getD i default)] := by
  unfold scN; rw [take_snocP h, List.map_append]; rfl
theorem scN_len {x : Int} {l : List Prt} {i : Nat} : (scN x l i).length ≤ l.length := by unfold scN; rw [List.length_map, List.length_take]; omega
theorem wtN_sc {x i : Int} : ∀ {l : List Prt}, wtN (l.map (scW x)) i = x * wtN l i
  | [] => by simp [wtN]
  | p :: l => by
    have ih := wtN_sc (x := x) (i := i) (l := l)
    have e : numS (scW x p) = numS p := rfl
    simp only [List.map_cons, wtN, ih, e, Int.mul_add]
    split
    · simp only [scW]; rw [Int.mul_comm]
    · simp
section
variable {lim : Nat} {H : Hp} {K : V → Hp → Prop} {v w va vb : V} {l m a b : List Prt} {x y u1 u2 u3 : Int}
theorem dye_scaled (hv : LstV prC H v l) (hl : l.length ≤ 100) (hx : -10000000 ≤ x ∧ x ≤ 10000000) (hw : ∀ i, i < l.length → 0 ≤ (l.getD i default).w ∧ (l.getD i default).w ≤ 1000) (hlim : lim ≤ H.length) (hK : ∀ H' v', HX H H' → OwnT H.length prC H' v' (l.map (scW x)) → K v' H') : VCall tbl lim 50 [v, .int .i64 x] H K := by
  refine VCall_fn tbl_at50 rfl ?_
  simp [vf50, hv.len]
  refine wLoop_up l.length (fun i fr L H' => ∃ q, (fr 1 = .int .i64 x ∧ fr 8 = v ∧ fr 9 = .int .i64 l.length ∧ fr 10 = .int .i64 i ∧ fr 5 = q) ∧ HX H H' ∧ OwnT H.length prC H' q (scN x l i)) ⟨.snil, by simp [hv.len], HX.refl, .nil⟩ ?_
  rintro i hi fr L H1 ⟨q, ⟨f1, f8, f9, f10, f5⟩, x1, hq⟩
  have l1 := x1.len
  have hv1 := hv.mono x1
  simp [f1, f8, f9, f10, f5]
  refine cond_dec (fun ht => ?_) fun hfl => ?_
  · have ht : i < l.length := by omega
    have hwi := hw i ht
    have ld := fun L => prt_load hv1 ht (L := L)
    have hts := scN_succ (x := x) ht
    rw [hts]
    have hpb : -10000000000 ≤ (l.getD i default).w * x ∧ (l.getD i default).w * x ≤ 10000000000 := by
      have q1 := Int.mul_le_mul_of_nonneg_left hx.2 hwi.1
      have q2 := Int.mul_le_mul_of_nonneg_left hx.1 hwi.1
      generalize (l.getD i default).w * x = z at *
      omega
    have hlt := scN_len (x := x) (l := l) (i := i)
    replace hlt : (scN x l i).length < 1000000 := by omega
    generalize l.getD i default = p at *
    generalize scN x l i = C at *
    obtain ⟨v', H', a1, a2, a3, a4, a5, a6⟩ := hq.append (lim := lim) (bytes := 32) (x := scW x p) (cs := [.int .i64 p.l, .int .i64 p.t, .int .i64 p.b, .int .i64 (p.w * x)]) rfl ⟨by omega, by omega⟩ (by omega) hlt
    have hwz : IntKind.i64.wrap (p.w * x) = p.w * x := wrap_i64 (by omega) (by omega)
    generalize hz : p.w * x = z at *
    simp (disch := omega) [f1, f8, f9, f10, f5, hv1.at ht, ld, lpId_ept, lastO, lastS, splice44, iz4, rd43, rd4_3, hz, hwz, vbslice_some, splice, a1, wrap_i64]
    exact ⟨by omega, a3 _ x1 (Nat.le_refl _), a2⟩
  · have : i = l.length := by omega
    subst this
    unfold scN at hq
    rw [List.take_length] at hq
    have := hK H1 q x1 hq
    simp [f5, hq.lst.stor]
    exact this
theorem dye_both (ha : LstV prC H va a) (hb : LstV prC H vb b) (hK : K (.int .i64 (bothE a b)) H) : VCall tbl lim 48 [va, vb] H K := by
  refine VCall_fn tbl_at48 rfl ?_
  simp [vf48, ha.stor]
  refine dye_ValidateBlend ha ?_
  by_cases h : blP a = 0
  · simp [h, hb.stor]
    refine dye_ValidateBlend hb ?_
    simp
    simpa [bothE, h] using hK
  · simp [h]
    simpa [bothE, h] using hK
theorem ref_both (ha : LstV prC H va a) (hb : LstV prC H vb b) (hK : K (.int .i64 (bothE a b)) H) : VCall tbl lim 52 [va, vb] H K := by
  refine VCall_fn tbl_at52 rfl ?_
  simp [vf52, ha.stor]
  refine ref_ValidateBlend ha ?_
  by_cases h : blP a = 0
  · simp [h, hb.stor]
    refine ref_ValidateBlend hb ?_
    simp
    simpa [bothE, h] using hK
  · simp [h]
    simpa [bothE, h] using hK
theorem ref_Mix (ha : LstV prC H va a) (hb : LstV prC H vb b) (hx : I64 x) (hy : I64 y) (hlim : lim ≤ H.length) (hK : ∀ H' v', HX H H' → LstV prC H' v' (mixP a x b y).1 → K (.tup [v', .int .i64 (mixP a x b y).2]) H') : VCall tbl lim 22 [va, .int .i64 x, vb, .int .i64 y] H K := by
  refine VCall_fn tbl_at22 rfl ?_
  simp [vf22, ha.stor, hb.stor]
  refine ref_both ha hb ?_
  by_cases h0 : bothE a b = 0
  case neg =>
    have e : mixP a x b y = ([], bothE a b) := by unfold mixP; rw [if_pos h0]
    have := hK H .snil HX.refl (by rw [e]; exact .nil)
    rw [e] at this
    simp [h0]
    exact this
  obtain ⟨ba, bb⟩ := bothE_ok h0
  have bad : badM x y → K (.tup [.snil, .int .i64 1]) H := fun hbd => by
    have e : mixP a x b y = ([], 1) := by unfold mixP; rw [if_neg (by rw [h0]; simp), if_pos hbd]
    have := hK H .snil HX.refl (by rw [e]; exact .nil)
    rw [e] at this
    exact this
  simp [h0]
  refine ref_within ?_
  by_cases h1 : 0 ≤ x ∧ x ≤ 1000
  case neg =>
    have := bad (Or.inl h1)
    rw [decide_eq_false h1]
    simp
    exact this
  rw [decide_eq_true h1]
  simp
  refine ref_within ?_
  by_cases h2 : 0 ≤ y ∧ y ≤ 1000
  case neg =>
    have := bad (Or.inr (Or.inl h2))
    rw [decide_eq_false h2]
    simp
    exact this
  rw [decide_eq_true h2]
  have w1 : IntKind.i64.wrap (x + y) = x + y := wrap_i64 (by omega) (by omega)
  by_cases h3 : x + y = 0
  case pos =>
    have := bad (Or.inr (Or.inr h3))
    simp [w1, h3]
    exact this
  have hnb : ¬ badM x y := by unfold badM; omega
  have e : mixP a x b y = nrmP (canN (mixW a (x * totP b) b (y * totP a)) 240) := by unfold mixP; rw [if_neg (by rw [h0]; simp), if_neg hnb]
  rw [e] at hK
  have ta := tot_rng ba
  have tb := tot_rng bb
  have m1 := mul_tot h1 tb
  have m2 := mul_tot h2 ta
  have wa := fun i (hi : i < a.length) => (blP_okw ba).2 i hi
  have wb := fun i (hi : i < b.length) => (blP_okw bb).2 i hi
  have oa := blP_okw ba
  have ob := blP_okw bb
  simp [w1, h3, hb.stor, ha.stor]
  refine ref_total hb (B := 1000) (by omega) (by have := ob.1; omega) (fun i hi => by have := wb i hi; omega) ?_
  have w2 : IntKind.i64.wrap (x * totP b) = x * totP b := wrap_i64 (by omega) (by omega)
  have w3 : IntKind.i64.wrap (y * totP a) = y * totP a := wrap_i64 (by omega) (by omega)
  generalize hX : x * totP b = X at *
  generalize hY : y * totP a = Y at *
  simp [hX, w2, ha.stor]
  refine ref_total ha (B := 1000) (by omega) (by have := oa.1; omega) (fun i hi => by have := wa i hi; omega) ?_
  simp [hY, w3, ha.stor, hb.stor]
  refine ref_merged ha hb oa ob m1 m2 hlim fun H2 v2 x2 h2 => ?_
  have := hK H2 v2 x2 h2
  simp [h2.stor]
  exact this
theorem dye_Mix (ha : LstV prC H va a) (hb : LstV prC H vb b) (hx : I64 x) (hy : I64 y) (hlim : lim ≤ H.length) (hK : ∀ H' v', HX H H' → LstV prC H' v' (mixP a x b y).1 → K (.tup [v', .int .i64 (mixP a x b y).2]) H') : VCall tbl lim 21 [va, .int .i64 x, vb, .int .i64 y] H K := by
  refine VCall_fn tbl_at21 rfl ?_
  simp [vf21, ha.stor, hb.stor]
  refine dye_both ha hb ?_
  by_cases h0 : bothE a b = 0
  case neg =>
    have e : mixP a x b y = ([], bothE a b) := by unfold mixP; rw [if_pos h0]
    have := hK H .snil HX.refl (by rw [e]; exact .nil)
    rw [e] at this
    simp [h0]
    exact this
  obtain ⟨ba, bb⟩ := bothE_ok h0
  have bad : badM x y → K (.tup [.snil, .int .i64 1]) H := fun hbd => by
    have e : mixP a x b y = ([], 1) := by unfold mixP; rw [if_neg (by rw [h0]; simp), if_pos hbd]
    have := hK H .snil HX.refl (by rw [e]; exact .nil)
    rw [e] at this
    exact this
  simp [h0]
  refine dye_isWeight ?_
  by_cases h1 : 0 ≤ x ∧ x ≤ 1000
  case neg =>
    have := bad (Or.inl h1)
    rw [decide_eq_false h1]
    simp
    exact this
  rw [decide_eq_true h1]
  simp
  refine dye_isWeight ?_
  by_cases h2 : 0 ≤ y ∧ y ≤ 1000
  case neg =>
    have := bad (Or.inr (Or.inl h2))
    rw [decide_eq_false h2]
    simp
    exact this
  rw [decide_eq_true h2]
  have w1 : IntKind.i64.wrap (x + y) = x + y := wrap_i64 (by omega) (by omega)
  by_cases h3 : x + y = 0
  case pos =>
    have := bad (Or.inr (Or.inr h3))
    simp [w1, h3]
    exact this
  have hnb : ¬ badM x y := by unfold badM; omega
  have e : mixP a x b y = nrmP (canN (mixW a (x * totP b) b (y * totP a)) 240) := by unfold mixP; rw [if_neg (by rw [h0]; simp), if_neg hnb]
  rw [e] at hK
  have ta := tot_rng ba
  have tb := tot_rng bb
  have m1 := mul_tot h1 tb
  have m2 := mul_tot h2 ta
  have oa := blP_okw ba
  have ob := blP_okw bb
  have wa := fun i (hi : i < a.length) => oa.2 i hi
  have wb := fun i (hi : i < b.length) => ob.2 i hi
  have la := (blP_ok ba).2.1
  have lb := (blP_ok bb).2.1
  have la6 := (blP_ok ba).1
  have lb6 := (blP_ok bb).1
  simp [w1, h3, hb.stor, ha.stor]
  refine dye_total hb (B := 1000) (by omega) (by omega) (fun i hi => by have := wb i hi; omega) ?_
  have w2 : IntKind.i64.wrap (x * totP b) = x * totP b := wrap_i64 (by omega) (by omega)
  have w3 : IntKind.i64.wrap (y * totP a) = y * totP a := wrap_i64 (by omega) (by omega)
  generalize hX : x * totP b = X at *
  generalize hY : y * totP a = Y at *
  simp [hX, w2, ha.stor]
  refine dye_scaled ha oa.1 (by omega) (fun i hi => (wa i hi).2) hlim fun H1 sa x1 hsa => ?_
  replace x1 : HX H H1 := x1
  have l1 := x1.len
  have ha1 := ha.mono x1
  have hb1 := hb.mono x1
  simp [ha.stor]
  refine dye_total ha1 (B := 1000) (by omega) (by omega) (fun i hi => by have := wa i hi; omega) ?_
  simp [hY, w3, hb.stor]
  refine dye_scaled hb1 ob.1 (by omega) (fun i hi => (wb i hi).2) (by omega) fun H2 sb x2 hsb => ?_
  replace x2 : HX H1 H2 := x2
  have l2 := x2.len
  have hsa2 := hsa.lst.mono x2
  simp [vbslice_some, splice, hsa2.stor, hsa2.one, hsb.lst.stor, hsb.lst.one]
  have x3 : HX H2 (H2 ++ [.row [sa, sb] true]) := HX.push
  have hb3 : LstV vC (H2 ++ [.row [sa, sb] true]) (.sl H2.length 0 2 1) [sa, sb] := LstV.sl (c := vC) (l := [sa, sb]) (off := 0) (cs := [sa, sb]) (own := true) (by simp) (by simp) rfl
  have hsa3 := hsa2.mono x3
  have hsb3 := hsb.lst.mono x3
  have hfl : [a.map (scW X), b.map (scW Y)].flatten = a.map (scW X) ++ b.map (scW Y) := by simp
  have hcol : colP (a.map (scW X) ++ b.map (scW Y)) = canN (mixW a X b Y) 240 := by
    unfold colP
    congr 1
    exact funext fun i => by rw [wtN_append, wtN_sc, wtN_sc]; rfl
  generalize H2 ++ [.row [sa, sb] true] = H3 at *
  have l3 := x3.len
  have hscm : ∀ (l : List Prt) (Z : Int), (0 ≤ Z ∧ Z ≤ 10000000) → Okw l → ∀ p, p ∈ l.map (scW Z) → okS p ∧ -10000000000 ≤ p.w ∧ p.w ≤ 10000000000 := fun l Z hZ ho p hp => by
    obtain ⟨q, hq, e⟩ := List.mem_map.1 hp
    obtain ⟨i, hi, e2⟩ := mem_getD hq
    have hw := ho.2 i hi
    rw [e2] at hw
    rw [← e]
    refine ⟨hw.1, ?_⟩
    have q1 := Int.mul_le_mul_of_nonneg_left hZ.2 hw.2.1
    have q2 := Int.mul_nonneg hw.2.1 hZ.1
    simp only [scW]
    generalize q.w * Z = z at *
    omega
  refine dye_collect hb3 (Ls := [a.map (scW X), b.map (scW Y)]) rfl (fun i hi => ?_) ⟨by simp, by simp⟩ (by rw [hfl]; simp; omega) (by omega) (B := 10000000000) ⟨by omega, by omega⟩ (fun p hp => ?_) fun H4 v4 x4 hp4 => ?_
  · have : i = 0 ∨ i = 1 := by simp at hi; omega
    rcases this with rfl | rfl
    · exact ⟨hsa3, by show 0 < (a.map (scW X)).length; rw [List.length_map]; exact la⟩
    · exact ⟨hsb3, by show 0 < (b.map (scW Y)).length; rw [List.length_map]; exact lb⟩
  · rw [hfl] at hp
    rcases List.mem_append.1 hp with hp | hp
    · exact hscm a X m1 oa p hp
    · exact hscm b Y m2 ob p hp
  rw [hfl, hcol] at hp4
  replace x4 : HX H3 H4 := x4
  have l4 := x4.len
  have hWb := mixW_bd oa ob m1 m2
  have hcl := canN_len (W := mixW a X b Y) (n := 240)
  simp [hp4.lst.stor]
  refine dye_normal hp4 (by omega) (by omega) (fun i hi => by have := canN_w (W := mixW a X b Y) (n := 240) hi hWb; omega) fun H5 v5 l5 ho hp5 => ?_
  have x5 : HX H H5 := HX.of (by omega) fun b hb => by rw [ho b (by omega)]; exact (((x1.trans x2).trans x3).trans x4).same hb
  have := hK H5 v5 x5 hp5.lst
  simp [hp5.lst.stor]
  exact this
theorem law_DyeMixes {ws : List V} {f : Mxt} (hv : MxtV H ws f) (hlim : lim ≤ H.length) (hK : ∀ H', K (.bool true) H') : VCall tbl lim 4 [.agg ws] H K := by
  cases hv with
  | mk ha hb hx hy =>
    rename_i va vb a b x y
    refine VCall_fn tbl_at4 rfl ?_
    simp [vf4, ha.stor, hb.stor]
    refine law_many ha ?_
    by_cases q1 : 100 < a.length
    · simp [q1]
      refine law_known hlim fun H1 => ?_
      simp; exact hK _
    simp [q1, hb.stor]
    refine law_many hb ?_
    by_cases q2 : 100 < b.length
    · simp [q2]
      refine law_known hlim fun H1 => ?_
      simp; exact hK _
    have n1 := mixP_len (a := a) (x := x) (b := b) (y := y)
    have n2 := mixP_len (a := b) (x := y) (b := a) (y := x)
    simp [q2, ha.stor, hb.stor]
    refine dye_Mix ha hb hx hy hlim fun H1 c x1 hc => ?_
    replace x1 : HX H H1 := x1
    have l1 := x1.len
    simp [ha.stor, hb.stor]
    refine ref_Mix (ha.mono x1) (hb.mono x1) hx hy (by omega) fun H2 d x2 hd => ?_
    replace x2 : HX H1 H2 := x2
    have l2 := x2.len
    have hc2 := hc.mono x2
    simp [hc2.stor, hd.stor]
    refine ref_SameParts hc2 hd (by omega) (by omega) ?_
    have hsame : sameP (mixP a x b y).1 (mixP a x b y).1 = true := decide_eq_true rfl
    rw [hsame]
    simp [ha.stor, hb.stor]
    refine dye_Mix ((hb.mono x1).mono x2) ((ha.mono x1).mono x2) hy hx (by omega) fun H3 g x3 hg => ?_
    replace x3 : HX H2 H3 := x3
    have l3 := x3.len
    have hc3 := hc2.mono x3
    by_cases he : (mixP a x b y).2 = 0
    · have hcm := mixP_comm he
      rw [hcm] at hg ⊢
      simp [he, hc3.stor, hg.stor]
      refine ref_SameParts hc3 hg (by omega) (by omega) ?_
      rw [hsame]
      simp
      refine law_known (by omega) fun H6 => ?_
      simp; exact hK _
    · have vwd : vwant false dv = false := rfl
      have vwt : vwant true dv = false := rfl
      simp [eq_false he, vwd, vwt]
      refine law_known (by omega) fun H6 => ?_
      simp; exact hK _
end
end Go.Proofs.Ytkmcdiajcnejiaa.Vm
