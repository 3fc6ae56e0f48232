/- The law PlaitNormalForms. -/
import Derived.Test.YtalejadhccgckaaDoorPqJ
namespace Go.Proofs.YtalejadhccgckaaDoor.Vm
open Go
set_option maxRecDepth 100000
set_option linter.unusedSimpArgs false
set_option linter.unusedVariables false
attribute [-simp] List.getD_eq_getElem?_getD

/-! half twists forward and backward -/
theorem itr_tfk {m : M4} : ∀ {n : Nat}, itr M4.tf n m = m.tfk n
  | 0 => rfl
  | n + 1 => by
    rw [itr_in, itr_tfk (n := n), Int.natCast_add, Int.cast_ofNat_Int, tfk_succ]
def M4.tb (m : M4) : M4 := m.tf.tf.tf
theorem tb_utw {m : M4} : m.utw.utw = m.tb.tb := by
  apply M4.ext' <;> simp [M4.tb, M4.utw, M4.tf]
theorem itr_oneB : ∀ {n : Nat}, itr M4.utw n .one = itr M4.tb n .one
  | 0 => rfl
  | 1 => rfl
  | n + 2 => by
    show (itr M4.utw n .one).utw.utw = (itr M4.tb n .one).tb.tb
    rw [tb_utw, itr_oneB (n := n)]
theorem itr_tfkB {m : M4} : ∀ {n : Nat}, itr M4.tb n m = m.tfk (-(n : Int))
  | 0 => rfl
  | n + 1 => by
    have h := tfk_succ (m := m.tb) (k := -((n : Int) + 1))
    rw [show -((n : Int) + 1) + 1 = -(n : Int) by omega] at h
    rw [itr_in, itr_tfkB (n := n), h]
    show (m.tf.tf.tf.tf).tfk _ = _
    rw [tf4]; congr 1
def ABA : List Nat := [65, 66, 65]
theorem matL_ABA {m : M4} : matL m ABA = m.utw := by
  apply M4.ext' <;> simp [matL, ABA, M4.step, M4.utw] <;> omega
theorem matL_pwB {m : M4} : ∀ {n : Nat}, matL m (pwL ABA n) = itr M4.utw n m
  | 0 => rfl
  | n + 1 => by
    show matL m (pwL ABA n ++ ABA) = (itr M4.utw n m).utw
    rw [matL_app, matL_pwB (n := n), matL_ABA]
theorem matL_tfk {l : List Nat} : ∀ {m : M4} {k : Int}, matL (m.tfk k) l = (matL m l).tfk k := by
  induction l with
  | nil => intro m k; rfl
  | cons c l ih =>
    intro m k
    show matL ((m.tfk k).step c) l = (matL (m.step c) l).tfk k
    rw [← tfk_step, ih]
theorem matL_rev : ∀ {R : List Nat}, matL .one R.reverse = matR R
  | [] => rfl
  | c :: R => by
    rw [List.reverse_cons, matL_app, matL_rev (R := R)]; rfl
/-- the three letters of a half twist, or of its inverse -/
def w3 (k : Int) : List Nat := if k < 0 then ABA else aba
theorem w3_end {k : Int} : matL .one (pwL (w3 k) k.natAbs) = M4.one.tfk k := by
  unfold w3
  split
  · rw [matL_pwB, itr_oneB, itr_tfkB]; congr 1; omega
  · rw [matL_pw, itr_one, itr_tfk]; congr 1; omega
/-! wrapped matrices -/
def wx (n : Int) : Int := wr n
theorem wx1 {a : Int} : wr (wx a) = wx a := by
  simp [wx, IntKind.wrap, IntKind.bits, IntKind.signed]; omega
theorem wx2 {a b : Int} : wr (wx a + wx b) = wx (a + b) := wr_add
theorem wx3 {a b : Int} : wr (wx a - wx b) = wx (a - b) := wr_sub
theorem wx4 {a b : Int} : wr (-wx a + wx b) = wx (b - a) := by
  rw [← wx3, show -wx a + wx b = wx b - wx a by omega]
theorem wx5 {a b : Int} : wr (wx a + -wx b) = wx (a - b) := by
  rw [← wx3, show wx a + -wx b = wx a - wx b by omega]
theorem wx_of {a : Int} (h : -9223372036854775808 ≤ a) (h2 : a ≤ 9223372036854775807) : wx a = a := wrap_i64 h h2
def wM (m : M4) : M4 := ⟨wx m.p, wx m.q, wx m.r, wx m.s⟩
def LM (c : Nat) : M4 := if c = 97 then ⟨1, 1, 0, 1⟩ else if c = 65 then ⟨1, -1, 0, 1⟩ else if c = 98 then ⟨1, 0, -1, 1⟩ else ⟨1, 0, 1, 1⟩
theorem timesL_t {H : Hp} {lim : Nat} {m : M4} {c : Nat} {K : V → Hp → Prop} (hc : isLet c) (hK : K (.agg (wM (m.step c)).V) H) : VCall tbl lim 44 [.agg (wM m).V, .agg (LM c).V] H K := by
  refine times_t (a := wM m) (b := LM c) ?_
  have key : ([.int .i64 (wr ((wM m).p * (LM c).p + (wM m).q * (LM c).r)), .int .i64 (wr ((wM m).p * (LM c).q + (wM m).q * (LM c).s)), .int .i64 (wr ((wM m).r * (LM c).p + (wM m).s * (LM c).r)), .int .i64 (wr ((wM m).r * (LM c).q + (wM m).s * (LM c).s))] : List V) = (wM (m.step c)).V := by
    obtain ⟨p, q, r, s⟩ := m
    have e1 := @wx1
    have e2 := @wx2
    have e3 := @wx3
    have e4 := @wx4
    have e5 := @wx5
    simp only [wr] at e1 e2 e3 e4 e5
    have cm : ∀ a b : Int, wx (a + b) = wx (b + a) := fun a b => by rw [Int.add_comm]
    rcases hc with rfl | rfl | rfl | rfl
    · simp [wM, LM, M4.step, M4.V, e1, e2, e3, e4, e5, cm q p, cm s r]
    · simp [wM, LM, M4.step, M4.V, e1, e2, e3, e4, e5]
    · simp [wM, LM, M4.step, M4.V, e1, e2, e3, e4, e5]
    · simp [wM, LM, M4.step, M4.V, e1, e2, e3, e4, e5]
  rw [key]; exact hK
theorem letter_t {H : Hp} {lim : Nat} {c : Nat} {K : V → Hp → Prop} (hc : isLet c) (hK : K (.agg (LM c).V) H) : VCall tbl lim 47 [.int .u8 c] H K := by
  refine VCall_fn tbl_at47 rfl ?_
  have r4 : ∀ a b c d : V, rd (some 4) [a, b, c, d] 0 = some (.agg [a, b, c, d]) := fun _ _ _ _ => rfl
  rcases hc with rfl | rfl | rfl | rfl <;> simp [vf47, splice, r4, LM, M4.V] at hK ⊢ <;> exact hK
theorem w3_idx {k : Int} {n : Nat} (h : n < 3) : vidxT (.str (tx (w3 k))) (.int .i64 (n : Int)) = some (.int .u8 ((w3 k).getD n 0 : Nat)) ∧ isLet ((w3 k).getD n 0) := by
  have hl : (w3 k).length = 3 := by unfold w3; split <;> rfl
  have hb : isLet ((w3 k).getD n 0) := by
    match n, h with
    | 0, _ => unfold w3; split <;> (unfold isLet; decide)
    | 1, _ => unfold w3; split <;> (unfold isLet; decide)
    | 2, _ => unfold w3; split <;> (unfold isLet; decide)
  refine ⟨?_, hb⟩
  rw [idxT (by rw [tx_size, hl]; exact h), chT_tx (by rw [hl]; exact h) (by rcases hb with e | e | e | e <;> omega)]
theorem matL_take {m : M4} {l : List Nat} {n : Nat} (h : n < l.length) : matL m (l.take (n + 1)) = (matL m (l.take n)).step (l.getD n 0) := by
  rw [List.take_add_one, matL_app, List.getD_eq_getElem?_getD, List.getElem?_eq_getElem h]; rfl
theorem fin_mat {s : ByteArray} (hv : vld s = true) : matL (M4.one.tfk (nf (chT s) s.size).k) (nf (chT s) s.size).R.reverse = mat (chT s) s.size := by
  rw [matL_tfk, matL_rev, nf_mat _ fun i hi => vld_at hv hi]
theorem law_PlaitNormalForms {H : Hp} {lim : Nat} {s : ByteArray} {K : V → Hp → Prop} (hH : HX glHp H) (hlim : lim ≤ H.length) (h1 : s.size ≤ maxLen) (hK : ∀ X, K (.bool true) (H ++ X)) : VCall tbl lim 9 [.str s] H K := by
  have hc := chk_of hH
  refine VCall_fn tbl_at9 rfl ?_
  simp [vf9]
  refine long_t ?_
  by_cases hu : 200 < s.size
  · simp [hu]
    exact known_t hc hlim fun X => by simp; exact hK X
  simp [hu]
  refine normal2_t hc hlim fun X1 => ?_
  cases hv : vld s with
  | false =>
    have hn : norV s = .tup [.int .i64 0, .str noT, .int .i64 1] := by simp [norV, hv]
    simp [hn, veq_self]
    exact known_t (chk_app hc) (by simp; omega) fun W => by simp; exact hK _
  | true =>
    have hb := vld_len hv
    have hn : norV s = .tup [.int .i64 (nf (chT s) s.size).k, .str (tR (nf (chT s) s.size).R), .int .i64 0] := by simp [norV, hv]
    have hfm := fin_mat hv
    have hbd := nf_bd (f := chT s) s.size
    have hcn := nf_cnt (f := chT s) s.size fun i hi => vld_at hv hi
    obtain ⟨o1, o2⟩ := nf_ok (f := chT s) s.size
    have hcr : croV s = .tup [.int .i64 (cntL (chT s) s.size), .int .i64 0] := by simp [croV, hv]
    have hmb := mat_bd60 (f := chT s) (n := s.size) hb
    generalize nf (chT s) s.size = x at hn hfm hbd hcn o1 o2
    obtain ⟨k, R⟩ := x
    simp only at hn hfm hbd hcn o1 o2
    have hz : (tR R).size = R.length := tR_size
    have g1 : ((120 : Int) < (R.length : Int)) = False := eq_false (by omega)
    have g2 : ((60 : Int) < k) = False := eq_false (by omega)
    have g3 : (k < (-60 : Int)) = False := eq_false (by omega)
    have w1 : IntKind.wrap .i64 (0 - k) = -k := by rw [wrap_i64 (by omega) (by omega)]; omega
    have w2 : IntKind.wrap .i64 (-k) = -k := wrap_i64 (by omega) (by omega)
    have hone : M4.one.V = [.int .i64 1, .int .i64 0, .int .i64 0, .int .i64 1] := rfl
    have r4 : ∀ a b c d : V, rd (some 4) [a, b, c, d] 0 = some (.agg [a, b, c, d]) := fun _ _ _ _ => rfl
    simp [hn, hz, vlenT_str, g1, g2, g3, splice]
    refine wLoop_up k.natAbs (fun i fr L H' => (fr 0 = .str s ∧ fr 3 = .int .i64 k ∧ fr 4 = .str (tR R) ∧ fr 6 = .lp 0 0 ∧ fr 7 = .int .i64 i) ∧ L = [(wM (matL .one (pwL (w3 k) i))).V] ∧ H' = H ++ X1 ∧ i ≤ k.natAbs) ⟨by simp, rfl, rfl, by omega⟩ ?_
    rintro i hi fr L H' ⟨⟨f0, f3, f4, f6, f7⟩, rfl, rfl, hle⟩
    by_cases hp : i < k.natAbs
    · have rM : ∀ m : M4, rd (some 4) m.V 0 = some (.agg m.V) := fun _ => rfl
      have sM : ∀ m m' : M4, splice m.V 0 m'.V = m'.V := fun _ _ => rfl
      have hs1 : matL .one (pwL (w3 k) (i + 1)) = matL (matL .one (pwL (w3 k) i)) ((w3 k).take 3) := by
        have e3 : (w3 k).take 3 = w3 k := by unfold w3; split <;> rfl
        rw [e3, ← matL_app]; rfl
      rw [hs1]
      generalize matL .one (pwL (w3 k) i) = M0
      have hgo : ∀ (fr : Fr) (Q : VExit → St → Prop), True := fun _ _ => trivial
      clear hgo
      by_cases hk : k < 0
      · have c1 : ((i : Int) < k) = False := eq_false (by omega)
        have c2 : ((i : Int) < -k) = True := eq_true (by omega)
        have ht : (⟨#[65, 66, 65]⟩ : ByteArray) = tx (w3 k) := by simp only [w3, hk, if_true]; rfl
        simp [f0, f3, f4, f6, f7, c1, c2, w1, w2, hk]
        rw [ht]
        refine wLoop_up 3 (fun n fr L H' => (fr 0 = .str s ∧ fr 3 = .int .i64 k ∧ fr 4 = .str (tR R) ∧ fr 6 = .lp 0 0 ∧ fr 7 = .int .i64 i ∧ fr 8 = .str (tx (w3 k)) ∧ fr 9 = .int .i64 n) ∧ L = [(wM (matL M0 ((w3 k).take n))).V] ∧ H' = H ++ X1 ∧ n ≤ 3) ⟨by simp [f0, f3, f4, f6, f7], rfl, rfl, by omega⟩ ?_
        rintro n hn3 fr2 L H' ⟨⟨g0, g3, g4, g6, g7, g8, g9⟩, rfl, rfl, hle2⟩
        by_cases hp3 : n < 3
        · have hp3' : ((n : Int) < 3) = True := eq_true (by omega)
          obtain ⟨hx, hL⟩ := w3_idx (k := k) hp3
          have hl3 : (w3 k).length = 3 := by unfold w3; split <;> rfl
          rw [matL_take (by rw [hl3]; exact hp3)]
          generalize matL M0 ((w3 k).take n) = M1
          generalize (w3 k).getD n 0 = c at hx hL
          simp [g0, g3, g4, g6, g7, g8, g9, hp3', rM, hx]
          refine letter_t hL ?_
          simp [g0, g3, g4, g6, g7, g8, g9]
          refine timesL_t hL ?_
          simp (disch := omega) [g0, g3, g4, g6, g7, g8, g9, M4.V, splice, wrap_i64]
          first | exact ⟨by omega, by omega⟩ | omega
        · have hp3' : ((n : Int) < 3) = False := eq_false (by omega)
          have : n = 3 := by omega
          subst this
          simp at g9
          simp (disch := omega) [g0, g3, g4, g6, g7, g8, g9, wrap_i64]
          first | exact ⟨by omega, by omega⟩ | omega
      · have c1 : ((i : Int) < k) = True := eq_true (by omega)
        have hk' : (k < (0 : Int)) = False := eq_false hk
        have ht : (⟨#[97, 98, 97]⟩ : ByteArray) = tx (w3 k) := by simp only [w3, hk, if_false]; rfl
        simp [f0, f3, f4, f6, f7, c1, hk']
        rw [ht]
        refine wLoop_up 3 (fun n fr L H' => (fr 0 = .str s ∧ fr 3 = .int .i64 k ∧ fr 4 = .str (tR R) ∧ fr 6 = .lp 0 0 ∧ fr 7 = .int .i64 i ∧ fr 8 = .str (tx (w3 k)) ∧ fr 9 = .int .i64 n) ∧ L = [(wM (matL M0 ((w3 k).take n))).V] ∧ H' = H ++ X1 ∧ n ≤ 3) ⟨by simp [f0, f3, f4, f6, f7], rfl, rfl, by omega⟩ ?_
        rintro n hn3 fr2 L H' ⟨⟨g0, g3, g4, g6, g7, g8, g9⟩, rfl, rfl, hle2⟩
        by_cases hp3 : n < 3
        · have hp3' : ((n : Int) < 3) = True := eq_true (by omega)
          obtain ⟨hx, hL⟩ := w3_idx (k := k) hp3
          have hl3 : (w3 k).length = 3 := by unfold w3; split <;> rfl
          rw [matL_take (by rw [hl3]; exact hp3)]
          generalize matL M0 ((w3 k).take n) = M1
          generalize (w3 k).getD n 0 = c at hx hL
          simp [g0, g3, g4, g6, g7, g8, g9, hp3', rM, hx]
          refine letter_t hL ?_
          simp [g0, g3, g4, g6, g7, g8, g9]
          refine timesL_t hL ?_
          simp (disch := omega) [g0, g3, g4, g6, g7, g8, g9, M4.V, splice, wrap_i64]
          first | exact ⟨by omega, by omega⟩ | omega
        · have hp3' : ((n : Int) < 3) = False := eq_false (by omega)
          have : n = 3 := by omega
          subst this
          simp at g9
          simp (disch := omega) [g0, g3, g4, g6, g7, g8, g9, wrap_i64]
          first | exact ⟨by omega, by omega⟩ | omega
    · have hi : i = k.natAbs := by omega
      subst hi
      have rM : ∀ m : M4, rd (some 4) m.V 0 = some (.agg m.V) := fun _ => rfl
      have c1 : (((k.natAbs : Nat) : Int) < k) = False := eq_false (by omega)
      have c2 : (((k.natAbs : Nat) : Int) < -k) = False := eq_false (by omega)
      simp only [w3_end]
      simp [f0, f3, f4, f6, f7, c1, c2, w1, w2]
      refine wLoop_up R.length (fun i fr L H' => (fr 0 = .str s ∧ fr 3 = .int .i64 k ∧ fr 4 = .str (tR R) ∧ fr 6 = .lp 0 0 ∧ fr 10 = .int .i64 i) ∧ L = [(wM (matL (M4.one.tfk k) (R.reverse.take i))).V] ∧ H' = H ++ X1 ∧ i ≤ R.length) ⟨by simp [f0, f3, f4, f6], rfl, rfl, by omega⟩ ?_
      rintro i hi fr2 L H' ⟨⟨g0, g3, g4, g6, g10⟩, rfl, rfl, hle2⟩
      by_cases hp2 : i < R.length
      · have hp' : ((i : Int) < (R.length : Int)) = True := eq_true (by omega)
        have tk := matL_take (m := M4.one.tfk k) (l := R.reverse) (n := i) (by rw [List.length_reverse]; exact hp2)
        rw [tk]
        generalize matL (M4.one.tfk k) (R.reverse.take i) = M0
        have pR := allP_rev o1
        have gd : ∀ j, j < R.length → isP (R.reverse.getD j 0) := fun j hj => getD_P pR (by rw [List.length_reverse]; exact hj)
        have ix : ∀ j : Nat, j < R.length → vidxT (.str (tR R)) (.int .i64 (j : Int)) = some (.int .u8 (R.reverse.getD j 0 : Nat)) := fun j hj => by
          rw [idxT (by rw [hz]; exact hj)]
          have hb2 : R.reverse.getD j 0 < 256 := by rcases gd j hj with e | e <;> omega
          rw [show chT (tR R) j = R.reverse.getD j 0 from chT_tx (by rw [List.length_reverse]; exact hj) hb2]
        have x0 := ix i hp2
        have p0 := gd i hp2
        have hnocc : ∀ j, j + 2 = i → ¬ (R.reverse.getD j 0 = R.reverse.getD (j + 2) 0 ∧ R.reverse.getD j 0 ≠ R.reverse.getD (j + 1) 0) := fun j hj => okR_occ o2 j (by rw [List.length_reverse]; omega)
        have tail : ∀ (fr3 : Fr) (c : Nat), True := fun _ _ => trivial
        clear tail
        by_cases h2 : 2 ≤ i
        · obtain ⟨j, rfl⟩ : ∃ j, i = j + 2 := ⟨i - 2, by omega⟩
          have y0 := ix j (by omega)
          have y1 := ix (j + 1) (by omega)
          have hno := hnocc j rfl
          have q0 := gd j (by omega)
          have q1 := gd (j + 1) (by omega)
          have h2' : ((2 : Int) ≤ ((j : Int) + 2)) = True := eq_true (by omega)
          have i1 : ((j : Int) + 2 - 2) = (j : Int) := by omega
          have i2 : ((j : Int) + 2 - 1) = ((j + 1 : Nat) : Int) := by omega
          have x0' : vidxT (.str (tR R)) (.int .i64 ((j : Int) + 2)) = some (.int .u8 (R.reverse.getD (j + 2) 0 : Nat)) := x0
          have hp3 : ((j : Int) + 2 < (R.length : Int)) = True := eq_true (by omega)
          have y1' : vidxT (.str (tR R)) (.int .i64 ((j : Int) + 1)) = some (.int .u8 (R.reverse.getD (j + 1) 0 : Nat)) := y1
          have i3 : ((j : Int) + 2 - 1) = (j : Int) + 1 := by omega
          generalize R.reverse.getD j 0 = a0 at y0 hno q0
          generalize R.reverse.getD (j + 1) 0 = a1 at y1' hno q1
          generalize R.reverse.getD (j + 2) 0 = a2 at x0' hno p0 ⊢
          have hL : isLet a2 := by rcases p0 with e | e <;> simp [isLet, e]
          rcases p0 with e2 | e2 <;> rcases q1 with e1 | e1 <;> rcases q0 with e0 | e0 <;> subst e2 e1 e0 <;> simp at hno <;>
            (simp (disch := omega) [g0, g3, g4, g6, g10, hp3, hz, vlenT_str, x0', y0, y1', h2', i1, i3, wrap_i64, rM]
             refine letter_t hL ?_
             simp (disch := omega) [g0, g3, g4, g6, g10, hp3, hz, vlenT_str, x0', wrap_i64, rM]
             refine timesL_t hL ?_
             simp (disch := omega) [g0, g3, g4, g6, g10, wrap_i64, M4.V, splice]
             first | exact ⟨by omega, by omega⟩ | omega)
        · have h2' : ((2 : Int) ≤ (i : Int)) = False := eq_false (by omega)
          generalize R.reverse.getD i 0 = a2 at x0 p0 ⊢
          have hL : isLet a2 := by rcases p0 with e | e <;> simp [isLet, e]
          rcases p0 with e2 | e2 <;> subst e2 <;>
            (simp (disch := omega) [g0, g3, g4, g6, g10, hp', hz, vlenT_str, x0, h2', wrap_i64, rM]
             refine letter_t hL ?_
             simp (disch := omega) [g0, g3, g4, g6, g10, hp', hz, vlenT_str, x0, wrap_i64, rM]
             refine timesL_t hL ?_
             simp (disch := omega) [g0, g3, g4, g6, g10, wrap_i64, M4.V, splice]
             first | exact ⟨by omega, by omega⟩ | omega)
      · have hp' : ((i : Int) < (R.length : Int)) = False := eq_false (by omega)
        have hi : i = R.length := by omega
        subst hi
        have e : R.reverse.take R.length = R.reverse := List.take_of_length_le (by rw [List.length_reverse]; exact Nat.le_refl _)
        rw [e, hfm]
        simp [g0, g3, g4, g6, g10, hp', hz, vlenT_str]
        refine matrix_t (by simp; omega) (fun _ X4 => ?_) (fun h => by rw [hv] at h; cases h)
        generalize mat (chT s) s.size = m at hmb
        simp only [M4.Bd] at hmb
        have mm : wM m = m := by
          obtain ⟨p, q, r, t⟩ := m
          simp only at hmb
          simp only [wM, wx_of (a := p) (by omega) (by omega), wx_of (a := q) (by omega) (by omega), wx_of (a := r) (by omega) (by omega), wx_of (a := t) (by omega) (by omega)]
        rw [mm]
        have vM := veqM (neg := false) (a := m) (b := m)
        have ee : mEq m m = true := mEq_iff.2 rfl
        rw [ee] at vM
        simp only [M4.V, Bool.false_eq_true, if_false] at vM
        simp [splice, M4.V, dz4, g0, g3, g4, g6]
        refine cross_t (by simp; omega) fun X5 => ?_
        have ecn : 3 * k + (R.length : Int) = cntL (chT s) s.size := hcn
        generalize cntL (chT s) s.size = cn at hcr ecn
        have ec : (cn = 3 * k + (R.length : Int)) = True := eq_true ecn.symm
        simp (disch := omega) [hcr, g0, g3, g4, g6, r4, vM, hz, vlenT_str, wrap_i64, ec]
        exact known_t (chk_app hc) (by simp; omega) fun W => by simp; exact hK _
end Go.Proofs.YtalejadhccgckaaDoor.Vm
