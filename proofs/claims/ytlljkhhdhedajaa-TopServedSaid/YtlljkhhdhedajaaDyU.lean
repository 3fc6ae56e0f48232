/- Package dye over the machine: Best, the document's bounds and Most; DyeServes, DyeMore. -/
import Derived.Test.YtlljkhhdhedajaaDyT
namespace Go.Proofs.Ytlljkhhdhedajaa.Vm
open Go
set_option maxRecDepth 100000
set_option maxHeartbeats 2000000
set_option linter.unusedSimpArgs false
set_option linter.unusedVariables false
attribute [-simp] List.getD_eq_getElem?_getD
theorem vwant_dv0 {b : Bool} : vwant b dv = false := Eq.trans rfl rfl
attribute [local simp] vwant_dv0
def mostP (A : List Lot) (B : List Wnt) : Int := if valP A B = 0 then mostF (netOf A B) else 0
theorem bit_all : (List.range 64).all (fun s => (List.range 6).all fun w => decide (IntKind.wrap .i64 ((BitVec.ofInt 64 ((s : Int).fdiv (2 ^ (min ((w : Nat) : Int).toNat 64))) &&& BitVec.ofInt 64 1).toNat : Nat) = if s.testBit w then 1 else 0)) = true := by decide +kernel
theorem shr_and {k : IntKind} {s w : Nat} (hs : s < 64) (hw : w < 6) : vbin .shr (.int .i64 (s : Int)) (.int k (w : Int)) = some (.int .i64 ((s : Int).fdiv (2 ^ (min ((w : Nat) : Int).toNat 64)))) ∧ vbin .and (.int .i64 ((s : Int).fdiv (2 ^ (min ((w : Nat) : Int).toNat 64)))) (.int .i64 1) = some (.int .i64 (if s.testBit w = true then 1 else 0)) := by
  have h := List.all_eq_true.1 (List.all_eq_true.1 bit_all s (List.mem_range.2 hs)) w (List.mem_range.2 hw)
  simp only [decide_eq_true_eq] at h
  refine ⟨?_, ?_⟩
  · have : ¬ ((w : Int) < 0) := by omega
    simp only [vbin, isShift, if_true, vshift, this, if_false]; rfl
  · rw [vbin_and]
    exact congrArg (fun z => some (V.int .i64 z)) h
theorem shl_one {k : IntKind} {n : Nat} (hn : n ≤ 6) : vbin .shl (.int .i64 1) (.int k (n : Int)) = some (.int .i64 ((2 ^ n : Nat) : Int)) := by
  match n, hn with
  | 0, _ => rfl
  | 1, _ => rfl
  | 2, _ => rfl
  | 3, _ => rfl
  | 4, _ => rfl
  | 5, _ => rfl
  | 6, _ => rfl
theorem wrap_u64 {n : Int} (h : 0 ≤ n ∧ n < 1000000) : IntKind.wrap .u64 n = n := by
  simp [IntKind.wrap, IntKind.bits, IntKind.signed]; omega
section
variable {lim : Nat} {H : Hp} {K : V → Hp → Prop} {av bv gv : V} {A : List Lot} {B : List Wnt} {G : List Gft}
theorem dye_Best (ha : LstV lotC H av A) (hb : LstV wntC H bv B) (hlim : lim ≤ H.length) (hK : ∀ H' v G, HX H H' → LstV gftC H' v G → (valP A B = 0 → checkP A B G = (mostF (netOf A B), 0) ∧ G.length ≤ 36) → (valP A B ≠ 0 → G = []) → K (.tup [v, .int .i64 (mostP A B), .int .i64 (valP A B)]) H') : VCall tbl lim 52 [av, bv] H K := by
  by_cases hv : valP A B = 0
  · refine dye_BestOf ha hb hlim hv (G := fun g => BestG A B g ∧ g.length = 36 ∧ ∀ i, 0 ≤ g.getD i 0 ∧ g.getD i 0 ≤ 1000000) (fun K' hk => dye_share ha hb hv hlim fun H' g hx hl h0 hB => hk H' g hx hl h0 ⟨hB, hl, h0⟩) ?_
    rintro H' v g hx ho ⟨hB, hl, h0⟩
    obtain ⟨q1, q2⟩ := best_check hv hl h0 hB
    have := hK H' v (gfA g 6) hx ho.lst (fun _ => ⟨q1, gfA_len 6⟩) (fun h => absurd hv h)
    simp only [mostP, hv, if_true] at this
    rw [q2]
    exact this
  · refine VCall_fn tbl_at52 rfl ?_
    simp [vf52, ha.stor, hb.stor]
    refine dye_Validate ha hb ?_
    have := hK H .snil [] HX.refl .nil (fun h => absurd h hv) (fun _ => rfl)
    simp only [mostP, hv, if_false] at this
    simp [hv]
    exact this
theorem su_bd {f : Nat → Int} : ∀ {n : Nat}, (∀ i, i < n → 0 ≤ f i ∧ f i ≤ 1000) → 0 ≤ su f n ∧ su f n ≤ 1000 * (n : Int)
  | 0, _ => by simp [su]
  | n + 1, h => by
    have := su_bd (n := n) fun i hi => h i (by omega)
    have := h n (by omega)
    simp only [su]; omega
theorem ref_bound (ha : LstV lotC H av A) (hb : LstV wntC H bv B) (hv : valP A B = 0) {s : Nat} (hs : s < 64) (hK : K (.int .i64 (bndF (netOf A B) fun w => s.testBit w)) H) : VCall tbl lim 77 [av, bv, .int .i64 s] H K := by
  refine VCall_fn tbl_at77 rfl ?_
  obtain ⟨b1, b2, b3, b4⟩ := net_bd hv
  have wu : ∀ k : Nat, k < 100 → IntKind.wrap .u64 (k : Int) = k := fun k hk => wrap_u64 (by omega)
  have f1 : ∀ w, w < B.length → 0 ≤ (if s.testBit w = true then 0 else (B.getD w default).w) ∧ (if s.testBit w = true then 0 else (B.getD w default).w) ≤ 1000 := fun w hw => by
    have := b4 w hw
    split <;> omega
  have f2 : ∀ l, l < A.length → 0 ≤ (if nearA (netOf A B) (fun w => s.testBit w) l = true then (A.getD l default).w else 0) ∧ (if nearA (netOf A B) (fun w => s.testBit w) l = true then (A.getD l default).w else 0) ≤ 1000 := fun l hl => by
    have := b3 l hl
    split <;> omega
  simp [vf77]
  refine wLoop_up B.length (fun i fr L H' => (fr 0 = av ∧ fr 1 = bv ∧ fr 2 = .int .i64 s ∧ fr 7 = .int .i64 (su (fun w => if s.testBit w = true then 0 else (B.getD w default).w) i) ∧ fr 8 = .int .i64 i) ∧ H' = H) ⟨by simp [su], rfl⟩ ?_
  rintro i hi fr L H' ⟨⟨g0, g1, g2, g7, g8⟩, e0⟩
  have e0 := e0.symm
  subst e0
  have sb := su_bd (n := i) fun j hj => f1 j (by omega)
  simp [g0, g1, g2, g7, g8, hb.len]
  refine cond_dec (fun ht => ?_) fun hfl => ?_
  · have ht : i < B.length := by omega
    obtain ⟨x, h1, h2⟩ : ∃ x, vbin .shr (.int .i64 (s : Int)) (.int .u64 (i : Int)) = some (.int .i64 x) ∧ vbin .and (.int .i64 x) (.int .i64 1) = some (.int .i64 (if s.testBit i = true then 1 else 0)) := ⟨_, (shr_and hs (by omega)).1, (shr_and (k := .u64) hs (by omega)).2⟩
    have fb := hb.faddr (i := i) (j := 0) ht
    have gw := fun L => wa_get hb (i := i) (j := 0) ht (by omega) (L := L)
    have hb4 := b4 i ht
    have hsu : su (fun w => if s.testBit w = true then 0 else (B.getD w default).w) (i + 1) = su (fun w => if s.testBit w = true then 0 else (B.getD w default).w) i + (if s.testBit i = true then 0 else (B.getD i default).w) := rfl
    cases hbit : s.testBit i with
    | true =>
      rw [hbit] at h2 hsu
      simp only [if_true] at h2 hsu
      simp (disch := omega) [g0, g1, g2, g7, g8, wu, h1, h2, wrap_i64, hsu]
      omega
    | false =>
      rw [hbit] at h2 hsu
      simp only [Bool.false_eq_true, if_false] at h2 hsu
      simp (disch := omega) [g0, g1, g2, g7, g8, wu, h1, h2, hb.at ht, fb, gw, lpId_ept, lpId_eptf, wrap_i64, hsu]
      omega
  have : i = B.length := by omega
  subst this
  clear hfl hi
  simp [g0, g1, g2, g7]
  have sbB := sb
  refine wLoop_up A.length (fun i fr L H' => (fr 0 = av ∧ fr 1 = bv ∧ fr 2 = .int .i64 s ∧ fr 7 = .int .i64 (su (fun w => if s.testBit w = true then 0 else (B.getD w default).w) B.length + su (fun l => if nearA (netOf A B) (fun w => s.testBit w) l = true then (A.getD l default).w else 0) i) ∧ fr 9 = .int .i64 i) ∧ H' = H) ⟨by simp [g0, g1, g2, g7, su], rfl⟩ ?_
  clear g0 g1 g2 g7 g8
  rintro i hi fr L H' ⟨⟨g0, g1, g2, g7, g9⟩, e0⟩
  have e0 := e0.symm
  subst e0
  have sb2 := su_bd (n := i) fun j hj => f2 j (by omega)
  simp [g0, g1, g2, g7, g9, ha.len]
  refine cond_dec (fun ht => ?_) fun hfl => ?_
  · have ht : i < A.length := by omega
    have hsu : su (fun l => if nearA (netOf A B) (fun w => s.testBit w) l = true then (A.getD l default).w else 0) (i + 1) = su (fun l => if nearA (netOf A B) (fun w => s.testBit w) l = true then (A.getD l default).w else 0) i + (if nearA (netOf A B) (fun w => s.testBit w) i = true then (A.getD i default).w else 0) := rfl
    have hf2 := f2 i ht
    simp [g0, g1, g2, g7, g9]
    refine wLoop_up B.length (fun w fr L H' => (fr 0 = av ∧ fr 1 = bv ∧ fr 2 = .int .i64 s ∧ fr 7 = .int .i64 (su (fun w => if s.testBit w = true then 0 else (B.getD w default).w) B.length + su (fun l => if nearA (netOf A B) (fun w => s.testBit w) l = true then (A.getD l default).w else 0) i) ∧ fr 9 = .int .i64 i ∧ fr 10 = .bool (anyN (fun w => s.testBit w && (netOf A B).N i w) w) ∧ fr 11 = .int .i64 w) ∧ H' = H) ⟨by simp [g0, g1, g2, g7, g9, anyN], rfl⟩ ?_
    clear g0 g1 g2 g7 g9
    rintro w hw fr L H' ⟨⟨g0, g1, g2, g7, g9, g10, g11⟩, e0⟩
    have e0 := e0.symm
    subst e0
    simp [g0, g1, g2, g7, g9, g10, g11, hb.len]
    refine cond_dec (fun ht2 => ?_) fun hfl2 => ?_
    · have ht2 : w < B.length := by omega
      obtain ⟨x, h1, h2⟩ : ∃ x, vbin .shr (.int .i64 (s : Int)) (.int .u64 (w : Int)) = some (.int .i64 x) ∧ vbin .and (.int .i64 x) (.int .i64 1) = some (.int .i64 (if s.testBit w = true then 1 else 0)) := ⟨_, (shr_and hs (by omega)).1, (shr_and (k := .u64) hs (by omega)).2⟩
      have hany : anyN (fun w => s.testBit w && (netOf A B).N i w) (w + 1) = (anyN (fun w => s.testBit w && (netOf A B).N i w) w || (s.testBit w && (netOf A B).N i w)) := rfl
      cases hc : anyN (fun w => s.testBit w && (netOf A B).N i w) w with
      | true =>
        rw [hc] at hany g10
        simp (disch := omega) [g0, g1, g2, g7, g9, g10, g11, hany, wrap_i64]
        omega
      | false =>
        rw [hc] at hany g10
        cases hbit : s.testBit w with
        | false =>
          rw [hbit] at h2 hany
          simp only [Bool.false_eq_true, if_false] at h2
          simp (disch := omega) [g0, g1, g2, g7, g9, g10, g11, hany, wu, h1, h2, wrap_i64]
          omega
        | true =>
          rw [hbit] at h2 hany
          simp only [if_true] at h2
          have hN : nearB (A.getD i default).l (A.getD i default).t (A.getD i default).b (B.getD w default).l (B.getD w default).t (B.getD w default).b (B.getD w default).n = (netOf A B).N i w := rfl
          simp (disch := omega) [g0, g1, g2, g7, g9, g10, g11, wu, h1, h2, ha.at ht, hb.at ht2, lo_load ha, wa_load hb, lpId_ept]
          refine ref_Near ?_
          rw [hN]
          simp (disch := omega) [g0, g1, g2, g7, g9, g10, g11, hany, wrap_i64]
          omega
    · have : w = B.length := by omega
      subst this
      have hnr : anyN (fun w => s.testBit w && (netOf A B).N i w) B.length = nearA (netOf A B) (fun w => s.testBit w) i := rfl
      rw [hnr] at g10
      cases hc : nearA (netOf A B) (fun w => s.testBit w) i with
      | true =>
        rw [hc] at g10 hsu hf2
        simp only [if_true] at hsu hf2
        have fa := ha.faddr (i := i) (j := 0) ht
        have gl := fun L => lo_get ha (i := i) (j := 0) ht (by omega) (L := L)
        simp (disch := omega) [g0, g1, g2, g7, g9, g10, ha.at ht, fa, gl, lpId_ept, lpId_eptf, wrap_i64, hsu]
        omega
      | false =>
        rw [hc] at g10 hsu
        simp only [Bool.false_eq_true, if_false] at hsu
        simp (disch := omega) [g0, g1, g2, g7, g9, g10, wrap_i64, hsu]
        omega
  · have : i = A.length := by omega
    subst this
    simp [g7]
    exact hK
theorem bnd_bd (hv : valP A B = 0) {f : Nat → Bool} : 0 ≤ bndF (netOf A B) f ∧ bndF (netOf A B) f ≤ 20000 := by
  obtain ⟨b1, b2, b3, b4⟩ := net_bd hv
  have s1 := su_bd (f := fun w => if f w = true then 0 else (B.getD w default).w) (n := B.length) fun w hw => by
    have := b4 w hw
    split <;> omega
  have s2 := su_bd (f := fun l => if nearA (netOf A B) f l = true then (A.getD l default).w else 0) (n := A.length) fun l hl => by
    have := b3 l hl
    split <;> omega
  show 0 ≤ su (fun w => if f w = true then 0 else (B.getD w default).w) B.length + su (fun l => if nearA (netOf A B) f l = true then (A.getD l default).w else 0) A.length ∧ _ ≤ _
  have e : bndF (netOf A B) f = su (fun w => if f w = true then 0 else (B.getD w default).w) B.length + su (fun l => if nearA (netOf A B) f l = true then (A.getD l default).w else 0) A.length := rfl
  rw [e]
  omega
theorem ref_Most (ha : LstV lotC H av A) (hb : LstV wntC H bv B) (hK : K (.tup [.int .i64 (mostP A B), .int .i64 (valP A B)]) H) : VCall tbl lim 53 [av, bv] H K := by
  refine VCall_fn tbl_at53 rfl ?_
  simp [vf53, ha.stor, hb.stor]
  refine ref_Validate ha hb ?_
  by_cases hv : valP A B = 0
  case neg =>
    simp only [mostP, hv, if_false] at hK
    simp [hv]; exact hK
  obtain ⟨b1, b2, b3, b4⟩ := net_bd hv
  simp only [mostP, hv, if_true] at hK
  simp [hv, ha.stor, hb.stor]
  refine ref_bound ha hb hv (s := 0) (by omega) ?_
  simp
  have wu : IntKind.wrap .u64 (B.length : Int) = (B.length : Int) := wrap_u64 (by omega)
  have hsh := shl_one (k := .u64) b2
  have hp : 2 ^ B.length ≤ 2 ^ 6 := Nat.pow_le_pow_right (by omega) b2
  have hp1 : 0 < 2 ^ B.length := Nat.pos_of_ne_zero (by simp)
  have e64 : (2 : Nat) ^ 6 = 64 := rfl
  generalize hP : 2 ^ B.length = P at *
  refine wLoop_up (P - 1) (fun n fr L H' => (fr 0 = av ∧ fr 1 = bv ∧ fr 7 = .int .i64 (minM (netOf A B) n) ∧ fr 8 = .int .i64 ((n + 1 : Nat) : Int)) ∧ H' = H) ⟨by simp [minM], rfl⟩ ?_
  rintro n hn fr L H' ⟨⟨g0, g1, g7, g8⟩, e0⟩
  have e0 := e0.symm
  subst e0
  simp [g0, g1, g7, g8, hb.len, wu, hsh]
  refine cond_dec (fun ht => ?_) fun hfl => ?_
  · have ht : n + 1 < P := by omega
    simp [g0, g1, g7, g8, ha.stor, hb.stor]
    refine ref_bound ha hb hv (s := n + 1) (by omega) ?_
    have hmin : minM (netOf A B) (n + 1) = min (minM (netOf A B) n) (bndF (netOf A B) fun w => (n + 1).testBit w) := rfl
    simp (disch := omega) [g0, g1, g7, g8, wrap_i64, hmin]
    omega
  · have : n = P - 1 := by omega
    subst this
    have hm : mostF (netOf A B) = minM (netOf A B) (P - 1) := by rw [← hP]; rfl
    rw [hm] at hK
    simp [g7]
    exact hK
theorem law_DyeServes {ws : List V} {f : Trd} (hv : TrdV H ws f) (hlim : lim ≤ H.length) (hK : ∀ H', K (.bool true) H') : VCall tbl lim 14 [.agg ws] H K := by
  cases hv with
  | mk ha hb =>
    rename_i av bv A B
    refine VCall_fn tbl_at14 rfl ?_
    simp [vf14, ha.stor, hb.stor, ha.one, hb.one]
    refine law_wide ha hb ?_
    refine cond_bool (fun h => ?_) fun h => ?_
    · simp
      refine law_known hlim fun H1 => ?_
      simp; exact hK _
    simp [ha.stor, hb.stor]
    refine dye_Best ha hb hlim fun H1 v G x1 hG ok no => ?_
    replace x1 : HX H H1 := x1
    have l1 := x1.len
    have ha1 := ha.mono x1
    have hb1 := hb.mono x1
    simp [hG.stor, ha.stor, hb.stor]
    refine ref_Most ha1 hb1 ?_
    by_cases hval : valP A B = 0
    case neg =>
      have hG0 := no hval
      subst hG0
      have hlen := hG.len
      simp [eq_false hval, hlen]
      refine law_known (by omega) fun H4 => ?_
      simp; exact hK _
    obtain ⟨q1, q2⟩ := ok hval
    have hm : mostP A B = mostF (netOf A B) := by simp [mostP, hval]
    simp [hval, hm, ha.stor, hb.stor, hG.stor]
    refine ref_Check ha1 hb1 hG (by omega) (by omega) fun H2 x2 => ?_
    replace x2 : HX H1 H2 := x2
    have l2 := x2.len
    rw [q1]
    simp
    refine law_known (by omega) fun H4 => ?_
    simp; exact hK _
end
end Go.Proofs.Ytlljkhhdhedajaa.Vm
