/- The law PlaitTwists. -/
import Derived.Test.YtalejadhccgckaaDoorPqI
namespace Go.Proofs.YtalejadhccgckaaDoor.Vm
open Go
set_option maxRecDepth 100000
set_option linter.unusedSimpArgs false
set_option linter.unusedVariables false
attribute [-simp] List.getD_eq_getElem?_getD

def itr (f : M4 → M4) : Nat → M4 → M4
  | 0, m => m
  | n + 1, m => f (itr f n m)
theorem itr_in {f : M4 → M4} {m : M4} : ∀ {n : Nat}, itr f (n + 1) m = itr f n (f m)
  | 0 => rfl
  | n + 1 => congrArg f (itr_in (n := n))
theorem tw_tf {m : M4} : m.tf.tw = m.tw.tf := by
  apply M4.ext' <;> simp [M4.tw, M4.tf]
theorem tw_tw {m : M4} : m.tw.tw = m.tf.tf := by
  apply M4.ext' <;> simp [M4.tw, M4.tf]
theorem itr_tf {m : M4} {n : Nat} : itr M4.tf n m.tf = (itr M4.tf n m).tf := by
  rw [← itr_in]; rfl
theorem itr_even {m : M4} : ∀ {k : Nat}, itr M4.tw (2 * k) m = itr M4.tf (2 * k) m
  | 0 => rfl
  | k + 1 => by
    show (itr M4.tw (2 * k) m).tw.tw = (itr M4.tf (2 * k) m).tf.tf
    rw [tw_tw, itr_even (k := k)]
theorem one_tw : M4.one.tw = M4.one.tf := rfl
theorem itr_one : ∀ {n : Nat}, itr M4.tw n .one = itr M4.tf n .one
  | 0 => rfl
  | 1 => rfl
  | n + 2 => by
    show (itr M4.tw n .one).tw.tw = (itr M4.tf n .one).tf.tf
    rw [tw_tw, itr_one (n := n)]
def aba : List Nat := [97, 98, 97]
theorem matL_aba {m : M4} : matL m aba = m.tw := tw_aba (c := 97) (o := 98) (Or.inl rfl) (Or.inr rfl) (by decide)
theorem matL_pw {m : M4} : ∀ {n : Nat}, matL m (pwL aba n) = itr M4.tw n m
  | 0 => rfl
  | n + 1 => by
    show matL m (pwL aba n ++ aba) = (itr M4.tw n m).tw
    rw [matL_app, matL_pw (n := n), matL_aba]
theorem matL_tf {l : List Nat} : ∀ {m : M4}, matL m.tf l = (matL m l).tf := by
  induction l with
  | nil => intro m; rfl
  | cons c l ih =>
    intro m
    show matL (m.tf.step c) l = (matL (m.step c) l).tf
    rw [← tf_step, ih]
theorem matL_itr {l : List Nat} {m : M4} : ∀ {n : Nat}, matL (itr M4.tf n m) l = itr M4.tf n (matL m l)
  | 0 => rfl
  | n + 1 => by
    show matL (itr M4.tf n m).tf l = (itr M4.tf n (matL m l)).tf
    rw [matL_tf, matL_itr (n := n)]
def ne (c : Nat) : Nat := (neiF (c : Int)).toNat
theorem ne_step {m m' : M4} {c : Nat} (hc : isLet c) (h : m'.tw = m.tf) : (m'.step (ne c)).tw = (m.step c).tf := by
  obtain ⟨p, q, r, s⟩ := m
  obtain ⟨p', q', r', s'⟩ := m'
  simp only [M4.tw, M4.tf, M4.mk.injEq] at h
  obtain ⟨h1, h2, h3, h4⟩ := h
  have e1 : ne 97 = 98 := rfl
  have e2 : ne 65 = 66 := rfl
  have e3 : ne 98 = 97 := rfl
  have e4 : ne 66 = 65 := rfl
  rcases hc with rfl | rfl | rfl | rfl
  · apply M4.ext' <;> simp [M4.step, M4.tw, M4.tf, e1] <;> omega
  · apply M4.ext' <;> simp [M4.step, M4.tw, M4.tf, e2] <;> omega
  · apply M4.ext' <;> simp [M4.step, M4.tw, M4.tf, e3] <;> omega
  · apply M4.ext' <;> simp [M4.step, M4.tw, M4.tf, e4] <;> omega
theorem ne_mat {l : List Nat} : ∀ {m m' : M4}, allL l → m'.tw = m.tf → (matL m' (l.map ne)).tw = (matL m l).tf := by
  induction l with
  | nil => intro m m' _ h; exact h
  | cons c l ih =>
    intro m m' hl h
    exact ih (fun d hd => hl d (by simp [hd])) (ne_step (hl c (by simp)) h)
theorem ne_cnt {l : List Nat} : ∀ {n : Int}, allL l → cntS n (l.map ne) = cntS n l := by
  induction l with
  | nil => intro n _; rfl
  | cons c l ih =>
    intro n hl
    have e1 : ne 97 = 98 := rfl
    have e2 : ne 65 = 66 := rfl
    have e3 : ne 98 = 97 := rfl
    have e4 : ne 66 = 65 := rfl
    show cntS (if ne c = 97 ∨ ne c = 98 then n + 1 else n - 1) (l.map ne) = cntS (if c = 97 ∨ c = 98 then n + 1 else n - 1) l
    rw [ih fun d hd => hl d (by simp [hd])]
    rcases hl c (by simp) with rfl | rfl | rfl | rfl <;> simp [e1, e2, e3, e4]
theorem cntS_pw {n : Int} : ∀ {k : Nat}, cntS n (pwL aba k) = n + 3 * k
  | 0 => by simp [pwL, cntS]
  | k + 1 => by
    show cntS n (pwL aba k ++ aba) = _
    rw [cntS_app, cntS_pw (k := k)]
    simp [cntS, aba]; omega
theorem lst_nei {s : ByteArray} (h : vld s = true) : lst (mp neiF s) = (lst s).map ne := by
  apply List.ext_getElem?
  intro i
  by_cases hi : i < s.size
  · rw [lst_at (by rw [mp_size]; exact hi), List.getElem?_map, lst_at hi, (chT_nei h hi).1]; rfl
  · rw [List.getElem?_eq_none (by rw [lst_len, mp_size]; omega), List.getElem?_eq_none (by rw [List.length_map, lst_len]; omega)]
/-- half twists in front of a word, or behind it, or behind the flipped one -/
theorem pass_even {l : List Nat} {k : Nat} : matL .one (pwL aba (2 * k) ++ l) = matL .one (l ++ pwL aba (2 * k)) := by
  rw [matL_app, matL_app, matL_pw, matL_pw, itr_even, matL_itr, itr_even]
theorem pass_odd {l : List Nat} (hl : allL l) {k : Nat} : matL .one (pwL aba (2 * k + 1) ++ l) = matL .one (l.map ne ++ pwL aba (2 * k + 1)) := by
  rw [matL_app, matL_app, matL_pw, matL_pw, itr_one, matL_itr, itr_in, itr_in, ne_mat hl one_tw, itr_even]
theorem pass_cnt {l l' : List Nat} {c : Nat} (h : cntS 0 l = cntS 0 l') : cntS 0 (pwL aba c ++ l) = cntS 0 (l' ++ pwL aba c) := by
  rw [cntS_app, cntS_app, cntS_pw, cntS_pw, cntS_add, h]; omega
def nfL (x : NF) (l : List Nat) : NF := l.foldl (fun x c => x.stp c) x
theorem nf_lst {s : ByteArray} : ∀ n, n ≤ s.size → nf (chT s) n = nfL ⟨0, []⟩ ((lst s).take n)
  | 0, _ => rfl
  | n + 1, h => by
    rw [lst_take h, nfL, List.foldl_append]
    show (nf (chT s) n).stp (chT s n) = _
    rw [nf_lst n (by omega)]; rfl
theorem nf_all {s : ByteArray} : nf (chT s) s.size = nfL ⟨0, []⟩ (lst s) := by
  rw [nf_lst _ (Nat.le_refl _), ← lst_len, List.take_length]
theorem nfL_pw {k : Int} : ∀ {n : Nat}, nfL ⟨k, []⟩ (pwL aba n) = ⟨k + n, []⟩
  | 0 => by simp [pwL, nfL]
  | n + 1 => by
    show nfL ⟨k, []⟩ (pwL aba n ++ aba) = _
    have e : nfL ⟨k, []⟩ (pwL aba n ++ aba) = nfL (nfL ⟨k, []⟩ (pwL aba n)) aba := List.foldl_append
    rw [e, nfL_pw (n := n)]
    simp [nfL, aba, NF.stp, NF.cross]; omega
def wAba : ByteArray := ⟨[97, 98, 97].toArray⟩
theorem lst_aba : lst wAba = aba := rfl
theorem vld_aba : vld wAba = true := by decide
theorem law_PlaitTwists {H : Hp} {lim : Nat} {s : ByteArray} {n : Int} {K : V → Hp → Prop} (hH : HX glHp H) (hlim : lim ≤ H.length) (h1 : s.size ≤ maxLen) (hn : I64 n) (hK : ∀ X, K (.bool true) (H ++ X)) : VCall tbl lim 13 [.str s, .int .i64 n] H K := by
  have hc := chk_of hH
  refine VCall_fn tbl_at13 rfl ?_
  simp [vf13]
  refine long_t ?_
  by_cases hu : 200 < s.size
  · simp [hu]
    exact known_t hc hlim fun X => by simp; exact hK X
  simp [hu]
  obtain ⟨c, hcn, hc7⟩ : ∃ c : Nat, (n % 8).toNat = c ∧ c ≤ 7 := ⟨_, rfl, by omega⟩
  obtain ⟨d, hdn⟩ : ∃ d : Nat, (n % 2).toNat = d := ⟨_, rfl⟩
  have hcd : c % 2 = d := by omega
  have a7 := and7 (n := n)
  have a1 := and1 (n := n)
  rw [hcn] at a7
  rw [hdn] at a1
  have p1 := powV_small (s := wAba) (n := (c : Int)) vld_aba (by omega)
  rw [bas_pos, show (c : Int).natAbs = c by omega] at p1
  have rs1 : (rep wAba c).size = c * 3 := rep_size
  have k1 : ckdV (rep wAba c) = .tup [.str (rep wAba c), .int .i64 0] := by simp only [ckdV, rs1]; rw [if_pos (by omega)]
  have vt := vld_rep (n := c) vld_aba (by omega)
  have lt : lst (rep wAba c) = pwL aba c := by rw [lst_rep, lst_aba]
  have tt : twiV (rep wAba c) = .tup [.bool true, .int .i64 0] := by
    have : (nf (chT (rep wAba c)) (rep wAba c).size).R = [] := by rw [nf_all, lt, nfL_pw]
    simp [twiV, vt, this]
  rw [k1] at p1
  generalize rep wAba c = t at rs1 vt lt tt p1
  have fin : ∀ X, VCall tbl lim 18 [] (H ++ X) (fun v H' => v = .bool true ∧ ∃ Y, H' = H ++ Y) := fun X =>
    known_t (chk_app hc) (by simp; omega) fun W => ⟨rfl, X ++ W, by simp⟩
  clear fin
  refine isTwist_t hc hlim fun X1 => ?_
  have e3 : (⟨#[97, 98, 97]⟩ : ByteArray) = wAba := rfl
  cases hv : vld s with
  | false =>
    have h2 : twiV s = .tup [.bool false, .int .i64 1] := by simp [twiV, hv]
    have hj : joinV t s = .tup [.str noT, .int .i64 1] := by simp [joinV, hv]
    simp [h2]
    refine isTwist_r (by omega) fun X2 => ?_
    simp [h2, veqB, a7]
    rw [e3]
    refine power_t (chk_app hc) (by simp; omega) (by constructor <;> omega) fun X3 => ?_
    simp [p1]
    refine join_t (by simp; omega) fun X4 => ?_
    simp [hj, a1]
    by_cases hd : d = 1
    · simp [hd]
      refine flip2_t (chk_app hc) (by simp; omega) fun X5 => ?_
      simp [wV_0 hv]
      obtain ⟨j1, j2, hj2⟩ := joinV_pair (u := noT) (v := t)
      refine join_t (by simp; omega) fun X6 => ?_
      simp [hj2]
      exact known_t (chk_app hc) (by simp; omega) fun W => by simp; exact hK _
    · have hd' : ((d : Int) = 1) = False := eq_false (by omega)
      simp [hd, hd']
      obtain ⟨j1, j2, hj2⟩ := joinV_pair (u := s) (v := t)
      refine join_t (by simp; omega) fun X6 => ?_
      simp [hj2]
      exact known_t (chk_app hc) (by simp; omega) fun W => by simp; exact hK _
  | true =>
    have hsb := vld_len hv
    obtain ⟨tb, h2⟩ : ∃ b, twiV s = .tup [.bool b, .int .i64 0] := ⟨decide ((nf (chT s) s.size).R = []), by simp [twiV, hv]⟩
    simp [h2]
    refine isTwist_r (by omega) fun X2 => ?_
    simp [h2, veqB, a7]
    rw [e3]
    refine power_t (chk_app hc) (by simp; omega) (by constructor <;> omega) fun X3 => ?_
    simp [p1]
    refine join_t (by simp; omega) fun X4 => ?_
    have hal := allL_vld hv
    by_cases hz : t.size + s.size ≤ 60
    case neg =>
      have hj : joinV t s = .tup [.str noT, .int .i64 4] := by simp [joinV, vt, hv, ckdV, hz]
      simp [hj, a1]
      by_cases hd : d = 1
      · simp [hd]
        refine flip2_t (chk_app hc) (by simp; omega) fun X5 => ?_
        simp [wV_1 hv]
        obtain ⟨j1, j2, hj2⟩ := joinV_pair (u := mp neiF s) (v := t)
        refine join_t (by simp; omega) fun X6 => ?_
        simp [hj2]
        exact known_t (chk_app hc) (by simp; omega) fun W => by simp; exact hK _
      · have hd' : ((d : Int) = 1) = False := eq_false (by omega)
        simp [hd, hd']
        obtain ⟨j1, j2, hj2⟩ := joinV_pair (u := s) (v := t)
        refine join_t (by simp; omega) fun X6 => ?_
        simp [hj2]
        exact known_t (chk_app hc) (by simp; omega) fun W => by simp; exact hK _
    have hj : joinV t s = .tup [.str (t ++ s), .int .i64 0] := by simp [joinV, vt, hv, ckdV, hz]
    have hvx := vld_app vt hv hz
    simp [hj, a1]
    by_cases hd : d = 1
    · have hsy := mp_size (F := neiF) (s := s)
      have hz2 : (mp neiF s).size + t.size ≤ 60 := by omega
      have hvn := vld_nei hv
      have hln := lst_nei hv
      have hj2 : joinV (mp neiF s) t = .tup [.str (mp neiF s ++ t), .int .i64 0] := by simp [joinV, vt, hvn, ckdV, hz2]
      have hvz := vld_app hvn vt hz2
      have hq : samV (t ++ s) (mp neiF s ++ t) = .tup [.bool true, .int .i64 0] := by
        have : eqv (t ++ s) (mp neiF s ++ t) = true := by
          refine eqv_of hvx hvz ?_ ?_
          · rw [lst_app, lst_app, lt, hln, show c = 2 * (c / 2) + 1 by omega]; exact pass_odd hal
          · rw [lst_app, lst_app, lt, hln]; exact pass_cnt (ne_cnt hal).symm
        simp [samV, hvx, hvz, this]
      simp [hd]
      refine flip2_t (chk_app hc) (by simp; omega) fun X5 => ?_
      simp [wV_1 hv]
      refine join_t (by simp; omega) fun X6 => ?_
      simp [hj2]
      refine same_t (chk_app hc) (by simp; omega) fun X7 => ?_
      simp [hq]
      refine isTwist_t (chk_app hc) (by simp; omega) fun X8 => ?_
      simp [tt]
      exact known_t (chk_app hc) (by simp; omega) fun W => by simp; exact hK _
    · have hd' : ((d : Int) = 1) = False := eq_false (by omega)
      have hz2 : s.size + t.size ≤ 60 := by omega
      have hj2 : joinV s t = .tup [.str (s ++ t), .int .i64 0] := by simp [joinV, vt, hv, ckdV, hz2]
      have hvz := vld_app hv vt hz2
      have hq : samV (t ++ s) (s ++ t) = .tup [.bool true, .int .i64 0] := by
        have : eqv (t ++ s) (s ++ t) = true := by
          refine eqv_of hvx hvz ?_ ?_
          · rw [lst_app, lst_app, lt, show c = 2 * (c / 2) by omega]; exact pass_even
          · rw [lst_app, lst_app, lt]; exact pass_cnt rfl
        simp [samV, hvx, hvz, this]
      simp [hd, hd']
      refine join_t (by simp; omega) fun X6 => ?_
      simp [hj2]
      refine same_t (chk_app hc) (by simp; omega) fun X7 => ?_
      simp [hq]
      refine isTwist_t (chk_app hc) (by simp; omega) fun X8 => ?_
      simp [tt]
      exact known_t (chk_app hc) (by simp; omega) fun W => by simp; exact hK _
end Go.Proofs.YtalejadhccgckaaDoor.Vm
