/- TopEven: stretches of rows and of spread rows. -/
import Derived.Test.YtakbcmofgfjeiaaKsB
import Derived.Test.YtakbcmofgfjeiaaKnK
namespace Go.Proofs.Ytakbcmofgfjeiaa.Vm
open Go
set_option maxRecDepth 100000
set_option linter.unusedSimpArgs false
set_option linter.unusedVariables false
set_option maxHeartbeats 1000000
attribute [-simp] List.getD_eq_getElem?_getD
/-- a loop that is left by one exit: what holds there -/
theorem wLoop_post {T : Tbl} {lim : Nat} {body : VCode} {Q : VExit → St → Prop} {s : St} (id : Nat) (P : Fr → Lo → Hp → Prop) (h : wCode T lim (.loop body) (fun e s => e = .exit id ∧ P s.fr s.L s.H) s) (hQ : ∀ fr L H, P fr L H → Q (.exit id) ⟨fr, L, H⟩) : wCode T lim (.loop body) Q s := by
  obtain ⟨n, e, s', h1, he, h2⟩ := h
  subst he
  exact ⟨n, _, s', h1, hQ _ _ _ h2⟩
theorem wrapU {k : Int} : 0 ≤ IntKind.wrap .u64 k := by
  simp [IntKind.wrap, IntKind.bits, IntKind.signed]; omega
theorem wrapU_id {n : Int} (h : 0 ≤ n ∧ n < 1000000) : IntKind.wrap .u64 n = n := by
  simp [IntKind.wrap, IntKind.bits, IntKind.signed]; omega
def winP (k n : Int) : Nat := ((IntKind.wrap .u64 k).tmod (n + 1)).toNat
theorem winP_ok {k n : Int} (hn : 0 ≤ n) : (IntKind.wrap .u64 k).tmod (n + 1) = (winP k n : Nat) ∧ (winP k n : Int) ≤ n := by
  have h0 := @wrapU k
  have h1 := Int.tmod_nonneg (n + 1) h0
  have h2 := Int.tmod_lt_of_pos (IntKind.wrap .u64 k) (show 0 < n + 1 by omega)
  unfold winP; omega
theorem row_take {ws : List Int} {W : Int} {k : Nat} : ∀ {n : Nat}, k ≤ n → (rowS ws W n).take k = rowS ws W k
  | 0, h => by have : k = 0 := by omega
               subst this; rfl
  | n + 1, h => by
    by_cases e : k = n + 1
    · subst e; exact List.take_of_length_le (by rw [rowS_len]; exact Nat.le_refl _)
    · rw [rowS, List.take_append_of_le_length (by rw [rowS_len]; omega), row_take (by omega)]
/-- two stretches with as many holes -/
theorem bef_two {dn dd pn pd x y u v : Nat} (D : DP dn dd pn pd) (h1 : x ≤ y) (h2 : u ≤ v) (e : (y : Int) - x = (v : Int) - u) :
    ((bef dn dd pn pd y : Nat) - (bef dn dd pn pd x : Nat) : Int) - ((bef dn dd pn pd v : Nat) - (bef dn dd pn pd u : Nat) : Int) ≤ 1 ∧ ((bef dn dd pn pd v : Nat) - (bef dn dd pn pd u : Nat) : Int) - ((bef dn dd pn pd y : Nat) - (bef dn dd pn pd x : Nat) : Int) ≤ 1 := by
  have g1 := bef_gap D h1
  have g2 := bef_gap D h2
  have hd := D.d1
  rw [e] at g1
  generalize ((bef dn dd pn pd y : Nat) - (bef dn dd pn pd x : Nat) : Int) = A at *
  generalize ((bef dn dd pn pd v : Nat) - (bef dn dd pn pd u : Nat) : Int) = B at *
  generalize ((v : Int) - u) * dn = X at *
  have e1 : (A - B) * dd < 2 * dd := by rw [Int.sub_mul]; omega
  have e2 : (B - A) * dd < 2 * dd := by rw [Int.sub_mul]; omega
  have q1 := Int.lt_of_mul_lt_mul_right e1 (by omega)
  have q2 := Int.lt_of_mul_lt_mul_right e2 (by omega)
  omega
section
variable {lim : Nat} {H : Hp} {K : V → Hp → Prop} {v wv rv : V} {ws : List Int} {W : Int} {n : Nat}
theorem top_within {k m : Int} (hm : 0 ≤ m ∧ m ≤ 600) (hK : K (.int .i64 (winP k m)) H) : VCall tbl lim 58 [.int .i64 k, .int .i64 m] H K := by
  refine VCall_fn tbl_at58 rfl ?_
  have hu := wrapU_id (n := m + 1) (by omega)
  obtain ⟨e1, e2⟩ := winP_ok (k := k) hm.1
  have hb := vbin_rem (k := .u64) (a := IntKind.wrap .u64 k) (b := m + 1) (by omega)
  rw [e1] at hb
  simp (disch := omega) [vf58, wrap_i64, hu, hb]
  exact hK
/-- a stretch of the row has its share of each color up to less than two -/
theorem row_two (hW : 0 < W) (hs : W = ws.sum) (hw : ∀ c, 0 ≤ ws.getD c 0) {x y : Nat} (hx : x ≤ n) (hy : y ≤ n) {c : Nat} (hc : c < ws.length) :
    (cN (rowS ws W n) c y - cN (rowS ws W n) c x) * W - ((y : Int) - x) * ws.getD c 0 < 2 * W ∧ -(2 * W) < (cN (rowS ws W n) c y - cN (rowS ws W n) c x) * W - ((y : Int) - x) * ws.getD c 0 := by
  have hsu : su (fun c => ws.getD c 0) ws.length = W := by rw [su_list (Nat.le_refl _), List.take_length, hs]
  have a1 := (row_edf (n := n) hW hs hw).high hy c hc
  have b1 := (row_edf (n := n) hW hs hw).low hy hc
  have a2 := (row_edf (n := n) hW hs hw).high hx c hc
  have b2 := (row_edf (n := n) hW hs hw).low hx hc
  rw [hsu] at a1 b1 a2 b2
  rw [Int.add_mul] at b1 b2
  rw [Int.sub_mul, Int.sub_mul]
  omega
theorem top_stretched (hv : SlV H wv ws) (hr : SlV H rv (rowS ws W n)) (w1 : ws.length ≤ 6) (w2 : wBad ws = false) (w3 : W = ws.sum) (w4 : 1 ≤ W ∧ W ≤ 6000) (hn : n ≤ 600) {x y : Nat} (hx : x ≤ n) (hy : y ≤ n) (hK : K (.bool true) H) : VCall tbl lim 59 [wv, rv, .int .i64 x, .int .i64 y] H K := by
  refine VCall_fn tbl_at59 rfl ?_
  have wb := fun i => wBad_bd w2 (i := i)
  have hrl := @rowS_len ws W n
  simp [vf59]
  refine wLoop_up ws.length (fun i fr L H' => (fr 0 = wv ∧ fr 1 = rv ∧ fr 2 = .int .i64 x ∧ fr 3 = .int .i64 y ∧ fr 9 = .int .i64 (ws.take i).sum ∧ fr 10 = .int .i64 i) ∧ L = [] ∧ H' = H) ⟨by simp, rfl, rfl⟩ ?_
  rintro i hi fr L H' ⟨⟨f0, f1, f2, f3, f9, f10⟩, rfl, e0⟩
  have e0 := e0.symm
  subst e0
  simp [f0, f1, f2, f3, f9, f10, hv.len]
  refine cond_dec (fun ht => ?_) fun hfl => ?_
  · have ht : i < ws.length := by omega
    have hts := take_sum (l := ws) ht
    have hb := sum_take_bd w2 i (by omega)
    have wi := wb i
    simp (disch := omega) [f0, f1, f2, f3, f9, f10, hv.addr, hv.load, wrap_i64, hts]
    omega
  have : i = ws.length := by omega
  subst this
  rw [List.take_length, ← w3] at f9
  simp [f0, f1, f2, f3, f9]
  refine wLoop_up ws.length (fun c fr L H' => (fr 0 = wv ∧ fr 1 = rv ∧ fr 2 = .int .i64 x ∧ fr 3 = .int .i64 y ∧ fr 9 = .int .i64 W ∧ fr 11 = .int .i64 c) ∧ L = [] ∧ H' = H) ⟨by simp [f0, f1, f2, f3, f9], rfl, rfl⟩ ?_
  clear f0 f1 f2 f3 f9 f10 hi
  rintro c hc fr L H' ⟨⟨f0, f1, f2, f3, f9, f11⟩, rfl, e0⟩
  have e0 := e0.symm
  subst e0
  simp [f0, f1, f2, f3, f9, f11, hv.len]
  refine cond_dec (fun ht => ?_) fun hfl => ?_
  case refine_2 =>
    simp
    exact hK
  have ht : c < ws.length := by omega
  simp [f0, f1, f2, f3, f9, f11]
  refine wLoop_post 4 (fun fr L H' => ∃ k : Int, (fr 0 = wv ∧ fr 1 = rv ∧ fr 2 = .int .i64 x ∧ fr 3 = .int .i64 y ∧ fr 9 = .int .i64 W ∧ fr 11 = .int .i64 c ∧ fr 12 = .int .i64 k) ∧ L = [] ∧ H' = H ∧ (0 ≤ k ∧ k ≤ 600) ∧ (x < y → k = cN (rowS ws W n) c y - cN (rowS ws W n) c x)) ?_ ?_
  · refine wLoop_up (y - x) (fun i fr L H' => (fr 0 = wv ∧ fr 1 = rv ∧ fr 2 = .int .i64 x ∧ fr 3 = .int .i64 y ∧ fr 9 = .int .i64 W ∧ fr 11 = .int .i64 c ∧ fr 12 = .int .i64 (cN (rowS ws W n) c (x + i) - cN (rowS ws W n) c x) ∧ fr 13 = .int .i64 ((x + i : Nat) : Int)) ∧ L = [] ∧ H' = H ∧ (0 ≤ cN (rowS ws W n) c (x + i) - cN (rowS ws W n) c x ∧ cN (rowS ws W n) c (x + i) - cN (rowS ws W n) c x ≤ i)) ⟨by simp [f0, f1, f2, f3, f9, f11], rfl, rfl, by simp⟩ ?_
    clear f0 f1 f2 f3 f9 f11
    rintro i hi fr L H' ⟨⟨f0, f1, f2, f3, f9, f11, f12, f13⟩, rfl, e0, hb⟩
    have e0 := e0.symm
    subst e0
    have hnx : cN (rowS ws W n) c (x + (i + 1)) = cN (rowS ws W n) c (x + i) + if (rowS ws W n).getD (x + i) 0 = (c : Int) then 1 else 0 := rfl
    simp [f0, f1, f2, f3, f9, f11, f12, f13]
    by_cases h2 : x + i < y
    · have a1 := hr.addr (i := ((x + i : Nat) : Int)) (by omega)
      have g1 := fun L => hr.load (L := L) (i := x + i) (by omega)
      simp only [Int.toNat_natCast] at a1
      have ec : ((x + i : Nat) : Int) = (x : Int) + i := by omega
      rw [ec] at a1
      by_cases he : (rowS ws W n).getD (x + i) 0 = (c : Int)
      · rw [if_pos he] at hnx
        simp (disch := omega) [f0, f1, f2, f3, f9, f11, f12, f13, a1, g1, he, wrap_i64, show (x : Int) + i < y by omega, hnx]
        omega
      · rw [if_neg he] at hnx
        simp (disch := omega) [f0, f1, f2, f3, f9, f11, f12, f13, a1, g1, he, wrap_i64, show (x : Int) + i < y by omega, hnx]
        omega
    · simp [f0, f1, f2, f3, f9, f11, f12, f13, show ¬ (x : Int) + i < y by omega]
      refine ⟨by omega, fun h => ?_⟩
      have : x + i = y := by omega
      rw [this]
  clear f0 f1 f2 f3 f9 f11
  rintro fr L H' ⟨k, ⟨f0, f1, f2, f3, f9, f11, f12⟩, rfl, e0, hkb, hk⟩
  have e0 := e0.symm
  subst e0
  have wc := wb c
  have q1 := mul_bd (a := k) (b := W) (A := 600) (B := 6000) (by omega) (by omega)
  by_cases hxy : x < y
  · have hk := hk hxy
    have two := row_two (n := n) (by omega) w3 (fun c => (wb c).1) hx hy ht
    rw [← hk] at two
    have q2 := mul_bd (a := (y : Int) - x) (b := ws.getD c 0) (A := 600) (B := 1000) (by omega) (by omega)
    generalize hp1 : k * W = p1 at *
    generalize hp2 : ((y : Int) - x) * ws.getD c 0 = p2 at *
    simp (disch := omega) [f0, f1, f2, f3, f9, f11, f12, hv.addr, hv.load, wrap_i64, hp1, hp2, show (x : Int) < y by omega, show ¬ 2 * W ≤ p1 - p2 by omega, show ¬ p1 - p2 ≤ -2 * W by omega]
    omega
  · simp (disch := omega) [f0, f1, f2, f3, f9, f11, f12, hv.addr, hv.load, wrap_i64, hxy, show ¬ (x : Int) < y by omega]
    omega
theorem row_cap {N : Nat} {H : Hp} {v : V} {l : List Int} (h : OwnV N H v l) {k : Nat} (hk : k ≤ l.length) : ∃ u, vslS3 1 v none (some (.int .i64 k)) (.int .i64 k) = some u ∧ SlV H u (l.take k) := by
  cases h with
  | nil =>
    have : k = 0 := by simpa using hk
    subst this
    exact ⟨.snil, rfl, .nil⟩
  | row h1 h3 =>
    rename_i b
    have hb : vbounds k none (some (.int .i64 k)) = some (0, k) := by simp [vbounds, vint]
    refine ⟨.sl b 0 k 1, ?_, ?_⟩
    · simp only [vslS3, vint, Int.toNat_natCast, hb]
      rw [if_pos ⟨trivial, by omega, by omega⟩]; simp
    · have hl : (l.take k).length = k := by simp; omega
      have := SlV.sl (H := H) (b := b) (off := 0) (l := l.take k) h3 (by simp [ints_length]; omega) (by rw [hl]; simp [ints, List.map_take])
      rwa [hl] at this
theorem law_TopEven {a b c d x y m p q : Int} (hv : SlV H wv ws) (hlim : lim ≤ H.length) (ha : I64 a) (hb : I64 b) (hc : I64 c) (hd : I64 d) (hx : I64 x) (hy : I64 y) (hm : I64 m) (hp : I64 p) (hq : I64 q) (hK : ∀ H', K (.bool true) H') :
    VCall tbl lim 18 [.agg [.int .i64 a, .int .i64 b, .int .i64 c, .int .i64 d, .int .i64 x, .int .i64 y], wv, .agg [.int .i64 m, .int .i64 p, .int .i64 q]] H K := by
  refine VCall_fn tbl_at18 rfl ?_
  have r0 : rd (some 2) [.int .i64 a, .int .i64 b, .int .i64 c, .int .i64 d, .int .i64 x, .int .i64 y] 0 = some (rat a b) := rfl
  have r2 : rd (some 2) [.int .i64 a, .int .i64 b, .int .i64 c, .int .i64 d, .int .i64 x, .int .i64 y] 2 = some (rat c d) := rfl
  have n0 : rd none [.int .i64 a, .int .i64 b, .int .i64 c, .int .i64 d, .int .i64 x, .int .i64 y] 0 = some (.int .i64 a) := rfl
  have n1 : rd none [.int .i64 a, .int .i64 b, .int .i64 c, .int .i64 d, .int .i64 x, .int .i64 y] 1 = some (.int .i64 b) := rfl
  have n4 : rd none [.int .i64 a, .int .i64 b, .int .i64 c, .int .i64 d, .int .i64 x, .int .i64 y] 4 = some (.int .i64 x) := rfl
  have n5 : rd none [.int .i64 a, .int .i64 b, .int .i64 c, .int .i64 d, .int .i64 x, .int .i64 y] 5 = some (.int .i64 y) := rfl
  have s0 : rd none [.int .i64 m, .int .i64 p, .int .i64 q] 0 = some (.int .i64 m) := rfl
  have s1 : rd none [.int .i64 m, .int .i64 p, .int .i64 q] 1 = some (.int .i64 p) := rfl
  have s2 : rd none [.int .i64 m, .int .i64 p, .int .i64 q] 2 = some (.int .i64 q) := rfl
  have bl : balP [0, 1, 1, 0] = (true, 0) := by decide +kernel
  simp [vf18, r0, r2, n0, n1, n4, n5, s0, s1, s2, vbslice_some, splice]
  have hz : List.drop 4 (ints (zs 4)) = [] := rfl
  rw [hz]
  have hx0 : HX H (H ++ [.row [.int .i64 0, .int .i64 1, .int .i64 1, .int .i64 0] true]) := ⟨_, rfl⟩
  have sl0 : SlV (H ++ [.row [.int .i64 0, .int .i64 1, .int .i64 1, .int .i64 0] true]) (.sl H.length 0 4 1) [0, 1, 1, 0] := SlV.sl (cs := [.int .i64 0, .int .i64 1, .int .i64 1, .int .i64 0]) (own := true) (l := [0, 1, 1, 0]) (by simp) (by simp) rfl
  have hl0 := hx0.len
  generalize (H ++ [.row [.int .i64 0, .int .i64 1, .int .i64 1, .int .i64 0] true]) = H0 at hx0 sl0 hl0 ⊢
  refine knot_Balanced sl0 (by omega) fun H1 x1 => ?_
  replace x1 : HX H0 H1 := x1
  have l1 := x1.len
  rw [bl]
  simp [r0, r2, n0, n1, n4, n5, s0, s1, s2]
  refine knot_Stretch ha hb hc hd ?_
  simp [r0, r2, n0, n1, n4, n5, s0, s1, s2]
  refine knot_Stretch ha hb hc hd ?_
  have hv1 := hv.mono (hx0.trans x1)
  have key : ((strP a b c d x y).2 = 0 ∧ (strP a b c d 0 (IntKind.wrap .i64 (y - x))).2 = 0 ∧ IntKind.wrap .i64 (y - x) = y - x ∧ ((strP a b c d x y).1 - (strP a b c d 0 (IntKind.wrap .i64 (y - x))).1 ≤ 1 ∧ (strP a b c d 0 (IntKind.wrap .i64 (y - x))).1 - (strP a b c d x y).1 ≤ 1) ∧ ((0 ≤ (strP a b c d x y).1 ∧ (strP a b c d x y).1 ≤ 120001000000) ∧ (0 ≤ (strP a b c d 0 (IntKind.wrap .i64 (y - x))).1 ∧ (strP a b c d 0 (IntKind.wrap .i64 (y - x))).1 ≤ 120001000000)) ∧ ((1 ≤ b ∧ b ≤ 1000) ∧ (0 ≤ a ∧ a ≤ 6000) ∧ (0 ≤ y - x ∧ y - x ≤ 10000)) ∧ (-b < (strP a b c d x y).1 * b - (y - x) * a ∧ (strP a b c d x y).1 * b - (y - x) * a < b)) ∨ strP a b c d x y = (0, 1) := by
    cases h : rightB a b c d x y with
    | false => right; simp [strP, h]
    | true =>
    left
    have hh := right_iff.1 h
    have hwr := wrap_i64 (n := y - x) (by omega) (by omega)
    have h2 : rightB a b c d 0 (y - x) = true := right_iff.2 ⟨hh.1, by omega, by omega, by omega⟩
    rw [hwr]
    simp only [strP, h, h2, if_true]
    obtain ⟨dn, dd, pn, pd, rfl, rfl, rfl, rfl, D⟩ := DP.of hh.1.1 hh.1.2
    obtain ⟨X, rfl⟩ : ∃ N : Nat, x = N := ⟨x.toNat, by omega⟩
    obtain ⟨Y, rfl⟩ : ∃ N : Nat, y = N := ⟨y.toNat, by omega⟩
    have eY : ((Y : Int) - X).toNat = Y - X := by omega
    simp only [Int.toNat_natCast, eY, Int.toNat_zero]
    have g := bef_gap D (x := X) (y := Y) (by omega)
    have t := bef_two D (x := X) (y := Y) (u := 0) (v := Y - X) (by omega) (by omega) (by omega)
    have bY := bef_bd D (h := Y) (by omega)
    have bK := bef_bd D (h := Y - X) (by omega)
    have m1 : bef dn dd pn pd X ≤ bef dn dd pn pd Y := bef_mono (by omega)
    have m2 : bef dn dd pn pd 0 ≤ bef dn dd pn pd (Y - X) := bef_mono (by omega)
    have q0 := D.d2
    have q9 := D.d3
    have q8 := D.d1
    exact ⟨trivial, trivial, trivial, t, by omega, by omega, g⟩
  generalize hS : strP a b c d x y = S at *
  generalize hT : strP a b c d 0 (IntKind.wrap .i64 (y - x)) = T at *
  rcases key with ⟨e1, e2, e3, e4, e5, e6, e7⟩ | e1
  · have p1 := mul_bd (a := S.1) (b := b) (A := 120001000000) (B := 1000) (by omega) (by omega)
    have p2 := mul_bd (a := y - x) (b := a) (A := 10000) (B := 6000) (by omega) (by omega)
    generalize hp1 : S.1 * b = P1 at *
    generalize hp2 : (y - x) * a = P2 at *
    generalize hA : S.1 = A at *
    generalize hB : T.1 = B at *
    simp (disch := omega) [r0, r2, n0, n1, n4, n5, s0, s1, s2, e1, e2, e3, wrap_i64, hA, hB, hp1, hp2, show ¬ 1 < A - B by omega, show ¬ 1 < B - A by omega, show ¬ b ≤ P1 - P2 by omega, show ¬ P1 - P2 ≤ -b by omega]
    by_cases h100 : 100 < ws.length
    · simp [hv1.len, show (100 : Int) < ws.length by omega]
      exact hK _
    simp [hv1.len, hv1.stor, show ¬ (100 : Int) < ws.length by omega]
    refine knot_Spread hv1 (by omega) fun H2 w2 x2 o2 => ?_
    replace x2 : HX H1 H2 := x2
    have l2 := x2.len
    have hv2 := hv1.mono x2
    by_cases h : quoE ws m = 0
    case neg =>
      have e2 : sprL ws m = [] := by unfold sprL; rw [if_neg h]
      have hlen := o2.sl.len
      rw [e2] at hlen
      simp [h, hlen, o2.sl.stor]
      exact hK _
    obtain ⟨q1, q2⟩ := sprL_ok h
    have h' : ¬ (sumW ws = 0 ∨ m < 0 ∨ 600 < m) := fun h2 => by
      unfold quoE at h; rw [if_pos h2] at h; cases h
    obtain ⟨w1, w2', w3, w4, w5⟩ := sumW_pos (show sumW ws ≠ 0 by omega)
    have eL : sprL ws m = rowS ws (sumW ws) m.toNat := if_pos h
    simp [h, hv2.stor, o2.sl.stor]
    refine knot_IsSpread hv2 o2.sl (by omega) fun H3 x3 => ?_
    replace x3 : HX H2 H3 := x3
    have l3 := x3.len
    have hv3 := hv2.mono x3
    have o3 := o2.mono x3
    have hlen := o3.sl.len
    rw [q2] at hlen
    have k1 := (winP_ok (k := q) (n := m) (by omega)).2
    have k2 := (winP_ok (k := p) (n := m) (by omega)).2
    obtain ⟨u, c1, c2⟩ := row_cap o3 (k := winP q m) (by omega)
    simp [q1, hlen, hv3.stor, o3.sl.stor]
    refine top_within (by omega) ?_
    simp
    refine top_within (by omega) ?_
    simp [c1, hv3.stor, c2.stor]
    refine knot_IsSpread hv3 c2 (by omega) fun H4 x4 => ?_
    replace x4 : HX H3 H4 := x4
    have l4 := x4.len
    have hv4 := hv3.mono x4
    have o4 := o3.mono x4
    have ek : quoE ws (winP q m) = 0 := if_neg (by omega)
    obtain ⟨q3, q4⟩ := sprL_ok ek
    have eT : (sprL ws m).take (winP q m) = sprL ws (winP q m) := by
      have : sprL ws (winP q m) = rowS ws (sumW ws) (winP q m) := if_pos ek
      rw [this, eL, row_take (by omega)]
    rw [eT, q3]
    simp [hv4.stor, o4.sl.stor]
    refine top_within (by omega) ?_
    simp
    refine top_within (by omega) ?_
    simp [hv4.stor, o4.sl.stor]
    have o5 := o4.sl
    rw [eL] at o5
    refine top_stretched hv4 o5 w1 w2' w3 ⟨by omega, by omega⟩ (by omega) (by omega) (by omega) ?_
    simp
    exact hK _
  · subst e1
    simp (disch := omega) [r0, r2, n0, n1, n4, n5, s0, s1, s2]
    by_cases h100 : 100 < ws.length
    · simp [hv1.len, show (100 : Int) < ws.length by omega]
      exact hK _
    simp [hv1.len, hv1.stor, show ¬ (100 : Int) < ws.length by omega]
    refine knot_Spread hv1 (by omega) fun H2 w2 x2 o2 => ?_
    replace x2 : HX H1 H2 := x2
    have l2 := x2.len
    have hv2 := hv1.mono x2
    by_cases h : quoE ws m = 0
    case neg =>
      have e2 : sprL ws m = [] := by unfold sprL; rw [if_neg h]
      have hlen := o2.sl.len
      rw [e2] at hlen
      simp [h, hlen, o2.sl.stor]
      exact hK _
    obtain ⟨q1, q2⟩ := sprL_ok h
    have h' : ¬ (sumW ws = 0 ∨ m < 0 ∨ 600 < m) := fun h2 => by
      unfold quoE at h; rw [if_pos h2] at h; cases h
    obtain ⟨w1, w2', w3, w4, w5⟩ := sumW_pos (show sumW ws ≠ 0 by omega)
    have eL : sprL ws m = rowS ws (sumW ws) m.toNat := if_pos h
    simp [h, hv2.stor, o2.sl.stor]
    refine knot_IsSpread hv2 o2.sl (by omega) fun H3 x3 => ?_
    replace x3 : HX H2 H3 := x3
    have l3 := x3.len
    have hv3 := hv2.mono x3
    have o3 := o2.mono x3
    have hlen := o3.sl.len
    rw [q2] at hlen
    have k1 := (winP_ok (k := q) (n := m) (by omega)).2
    have k2 := (winP_ok (k := p) (n := m) (by omega)).2
    obtain ⟨u, c1, c2⟩ := row_cap o3 (k := winP q m) (by omega)
    simp [q1, hlen, hv3.stor, o3.sl.stor]
    refine top_within (by omega) ?_
    simp
    refine top_within (by omega) ?_
    simp [c1, hv3.stor, c2.stor]
    refine knot_IsSpread hv3 c2 (by omega) fun H4 x4 => ?_
    replace x4 : HX H3 H4 := x4
    have l4 := x4.len
    have hv4 := hv3.mono x4
    have o4 := o3.mono x4
    have ek : quoE ws (winP q m) = 0 := if_neg (by omega)
    obtain ⟨q3, q4⟩ := sprL_ok ek
    have eT : (sprL ws m).take (winP q m) = sprL ws (winP q m) := by
      have : sprL ws (winP q m) = rowS ws (sumW ws) (winP q m) := if_pos ek
      rw [this, eL, row_take (by omega)]
    rw [eT, q3]
    simp [hv4.stor, o4.sl.stor]
    refine top_within (by omega) ?_
    simp
    refine top_within (by omega) ?_
    simp [hv4.stor, o4.sl.stor]
    have o5 := o4.sl
    rw [eL] at o5
    refine top_stretched hv4 o5 w1 w2' w3 ⟨by omega, by omega⟩ (by omega) (by omega) (by omega) ?_
    simp
    exact hK _
end
end Go.Proofs.Ytakbcmofgfjeiaa.Vm
