/- Matrices of words: the exact product, and what both packages make of a word. -/
import Derived.Test.YtalejadhccgckaaDoorPkB
namespace Go.Proofs.YtalejadhccgckaaDoor.Vm
open Go
set_option maxRecDepth 100000
set_option linter.unusedSimpArgs false
set_option linter.unusedVariables false
attribute [-simp] List.getD_eq_getElem?_getD

structure M4 where
  p : Int
  q : Int
  r : Int
  s : Int
def M4.one : M4 := ⟨1, 0, 0, 1⟩
/-- a letter more -/
def M4.step (c : Nat) (m : M4) : M4 := if c = 97 then ⟨m.p, m.q + m.p, m.r, m.s + m.r⟩ else if c = 65 then ⟨m.p, m.q - m.p, m.r, m.s - m.r⟩
  else if c = 98 then ⟨m.p - m.q, m.q, m.r - m.s, m.s⟩ else ⟨m.p + m.q, m.q, m.r + m.s, m.s⟩
def mat (f : Nat → Nat) : Nat → M4
  | 0 => .one
  | n + 1 => (mat f n).step (f n)
def M4.mul (a b : M4) : M4 := ⟨a.p * b.p + a.q * b.r, a.p * b.q + a.q * b.s, a.r * b.p + a.s * b.r, a.r * b.q + a.s * b.s⟩
def M4.Bd (B : Int) (m : M4) : Prop := -B ≤ m.p ∧ m.p ≤ B ∧ -B ≤ m.q ∧ m.q ≤ B ∧ -B ≤ m.r ∧ m.r ≤ B ∧ -B ≤ m.s ∧ m.s ≤ B
theorem M4.step_bd {B : Int} {m : M4} (c : Nat) (h : m.Bd B) : (m.step c).Bd (2 * B) := by
  obtain ⟨p, q, r, s⟩ := m
  simp only [M4.Bd] at h
  unfold M4.step
  repeat' split
  all_goals simp only [M4.Bd]
  all_goals omega
theorem mat_bd {f : Nat → Nat} : ∀ n, (mat f n).Bd (2 ^ n)
  | 0 => by simp [mat, M4.one, M4.Bd]
  | n + 1 => by
    have h := M4.step_bd (f n) (mat_bd (f := f) n)
    rw [Int.pow_succ, Int.mul_comm]; exact h
theorem pow_le60 {n : Nat} (h : n ≤ 60) : (2 : Int) ^ n ≤ 1152921504606846976 := by
  have : (2 : Int) ^ n ≤ 2 ^ 60 := by
    have : 2 ^ n ≤ 2 ^ 60 := Nat.pow_le_pow_right (by omega) h
    exact_mod_cast this
  simpa using this
theorem mat_bd60 {f : Nat → Nat} {n : Nat} (h : n ≤ 60) : (mat f n).Bd 1152921504606846976 := by
  have h1 := mat_bd (f := f) n
  have h2 := pow_le60 h
  simp only [M4.Bd] at h1 ⊢
  omega
def M4.det (m : M4) : Int := m.p * m.s - m.q * m.r
theorem M4.det_step {m : M4} (c : Nat) : (m.step c).det = m.det := by
  obtain ⟨p, q, r, s⟩ := m
  unfold M4.step M4.det
  repeat' split
  all_goals simp only [Int.mul_add, Int.add_mul, Int.mul_sub, Int.sub_mul]
  all_goals omega
theorem mat_det {f : Nat → Nat} : ∀ n, (mat f n).det = 1
  | 0 => by simp [mat, M4.one, M4.det]
  | n + 1 => by simp only [mat, M4.det_step]; exact mat_det n
theorem step97 {p q r s : Int} : (M4.mk p q r s).step 97 = ⟨p, q + p, r, s + r⟩ := rfl
theorem step65 {p q r s : Int} : (M4.mk p q r s).step 65 = ⟨p, q - p, r, s - r⟩ := rfl
theorem step98 {p q r s : Int} : (M4.mk p q r s).step 98 = ⟨p - q, q, r - s, s⟩ := rfl
theorem step66 {c : Nat} (h1 : ¬ c = 97) (h2 : ¬ c = 65) (h3 : ¬ c = 98) {p q r s : Int} : (M4.mk p q r s).step c = ⟨p + q, q, r + s, s⟩ := by
  simp only [M4.step, h1, h2, h3, if_false]
theorem M4.mul_step {a b : M4} (c : Nat) : a.mul (b.step c) = (a.mul b).step c := by
  obtain ⟨p, q, r, s⟩ := a
  obtain ⟨p', q', r', s'⟩ := b
  have fin : ∀ {a b c d a' b' c' d' : Int}, a = a' → b = b' → c = c' → d = d' → (⟨a, b, c, d⟩ : M4) = ⟨a', b', c', d'⟩ := by
    rintro _ _ _ _ _ _ _ _ rfl rfl rfl rfl; rfl
  by_cases h1 : c = 97
  · subst h1
    simp only [step97, M4.mul, Int.mul_add, Int.add_mul]
    apply fin <;> omega
  by_cases h2 : c = 65
  · subst h2
    simp only [step65, M4.mul, Int.mul_sub, Int.sub_mul]
    apply fin <;> omega
  by_cases h3 : c = 98
  · subst h3
    simp only [step98, M4.mul, Int.mul_sub, Int.sub_mul]
    apply fin <;> omega
  · simp only [step66 h1 h2 h3, M4.mul, Int.mul_add, Int.add_mul]
    apply fin <;> omega
theorem M4.mul_one {a : M4} : a.mul .one = a := by
  obtain ⟨p, q, r, s⟩ := a
  simp [M4.mul, M4.one]
theorem mat_cat {f g : Nat → Nat} {n : Nat} : ∀ {k : Nat}, (∀ i, i < k → f (n + i) = g i) → mat f (n + k) = (mat f n).mul (mat g k)
  | 0, _ => by simp [mat, M4.mul_one]
  | k + 1, h => by
    show (mat f (n + k)).step (f (n + k)) = _
    rw [mat_cat (k := k) fun i hi => h i (by omega), h k (by omega)]
    exact (M4.mul_step _).symm
theorem mat_ext {f g : Nat → Nat} : ∀ {n : Nat}, (∀ i, i < n → f i = g i) → mat f n = mat g n
  | 0, _ => rfl
  | n + 1, h => by
    show (mat f n).step (f n) = (mat g n).step (g n)
    rw [mat_ext (n := n) fun i hi => h i (by omega), h n (by omega)]
def M4.V (m : M4) : List V := [.int .i64 m.p, .int .i64 m.q, .int .i64 m.r, .int .i64 m.s]
abbrev z4V : List V := [.int .i64 0, .int .i64 0, .int .i64 0, .int .i64 0]

theorem matrix_t {H : Hp} {lim : Nat} {s : ByteArray} {K : V → Hp → Prop} (hlim : lim ≤ H.length)
    (h1 : vld s = true → ∀ X, K (.tup [.agg (mat (chT s) s.size).V, .int .i64 0]) (H ++ X)) (h0 : vld s = false → ∀ X, K (.tup [.agg z4V, .int .i64 1]) (H ++ X)) : VCall tbl lim 42 [.str s] H K := by
  refine VCall_fn tbl_at42 rfl ?_
  simp [vf42]
  refine valid_t hlim fun X => ?_
  replace h1 : vld s = true → ∀ Y, K (.tup [.agg (mat (chT s) s.size).V, .int .i64 0]) ((H ++ X) ++ Y) := fun hv Y => by rw [List.append_assoc]; exact h1 hv _
  replace h0 : vld s = false → K (.tup [.agg z4V, .int .i64 1]) (H ++ X) := fun hv => h0 hv _
  have hlim : lim ≤ (H ++ X).length := by simp; omega
  generalize H ++ X = H1 at h1 h0 hlim
  cases hv : vld s with
  | false =>
    simp [splice]
    exact h0 hv
  | true =>
    have hb := vld_len hv
    simp
    refine wLoop_up s.size (fun i fr L H' => (fr 0 = .str s ∧ fr 2 = .lp 0 0 ∧ fr 3 = .int .i64 0 ∧ fr 4 = .int .i64 (mat (chT s) i).p ∧ fr 5 = .int .i64 (mat (chT s) i).q ∧ fr 6 = .int .i64 (mat (chT s) i).r ∧ fr 7 = .int .i64 (mat (chT s) i).s ∧ fr 15 = .it H1.length) ∧ L = [z4V] ∧ H' = H1 ++ [.sit s i] ∧ i ≤ s.size) ⟨by simp [mat, M4.one], rfl, rfl, by omega⟩ ?_
    rintro i hi fr L H' ⟨⟨f0, f2, f3, f4, f5, f6, f7, f15⟩, rfl, rfl, hle⟩
    by_cases hp : i < s.size
    · have hn := vnext_some (H := H1) (lim := lim) hlim hp
      have hl := vld_at hv hp
      have hd : Utf8.decode s i = (chT s i, 1) := dec_lt (by omega)
      rw [hd] at hn
      simp only at hn
      have hbd := mat_bd60 (f := chT s) (n := i) (by omega)
      have hs1 : mat (chT s) (i + 1) = (mat (chT s) i).step (chT s i) := rfl
      rw [hs1]
      generalize mat (chT s) i = m at f4 f5 f6 f7 hbd
      obtain ⟨p, q, r, t⟩ := m
      simp only [M4.Bd] at hbd
      rcases hl with e | e | e | e <;> rw [e] at hn ⊢ <;> simp (disch := omega) [f0, f2, f3, f4, f5, f6, f7, f15, hn, wrap_i64, M4.step] <;> exact ⟨hp, by omega⟩
    · have hn := vnext_end (H := H1) (lim := lim) hlim hp
      have hi : i = s.size := by omega
      subst hi
      simp [f0, f2, f3, f4, f5, f6, f7, f15, hn, splice]
      exact h1 hv _

theorem matrix0_r {H : Hp} {lim : Nat} {s : ByteArray} {K : V → Hp → Prop} (hv : vld s = true) (hK : K (.agg (mat (chT s) s.size).V) H) : VCall tbl lim 72 [.str s] H K := by
  refine VCall_fn tbl_at72 rfl ?_
  have hb := vld_len hv
  simp [vf72, splice, rd]
  refine wLoop_up s.size (fun i fr L H' => (fr 0 = .str s ∧ fr 2 = .lp 0 0 ∧ fr 3 = .lp 1 0 ∧ fr 4 = .int .i64 i) ∧ L = [z4V, (mat (chT s) i).V] ∧ H' = H ∧ i ≤ s.size) ⟨by simp, by simp [mat, M4.one, M4.V]; rfl, rfl, by omega⟩ ?_
  rintro i hi fr L H' ⟨⟨f0, f2, f3, f4⟩, rfl, rfl, hle⟩
  have r0 : ∀ a b c d : V, rd none [a, b, c, d] 0 = some a := fun _ _ _ _ => rfl
  have r1 : ∀ a b c d : V, rd none [a, b, c, d] 1 = some b := fun _ _ _ _ => rfl
  have r2 : ∀ a b c d : V, rd none [a, b, c, d] 2 = some c := fun _ _ _ _ => rfl
  have r3 : ∀ a b c d : V, rd none [a, b, c, d] 3 = some d := fun _ _ _ _ => rfl
  have r4 : ∀ a b c d : V, rd (some 4) [a, b, c, d] 0 = some (.agg [a, b, c, d]) := fun _ _ _ _ => rfl
  by_cases hp : i < s.size
  · have hp' : ((i : Int) < (s.size : Int)) = True := eq_true (by omega)
    have hl := vld_at hv hp
    have hbd := mat_bd60 (f := chT s) (n := i) (by omega)
    have hs1 : mat (chT s) (i + 1) = (mat (chT s) i).step (chT s i) := rfl
    have hx := idxT hp
    rw [hs1]
    generalize mat (chT s) i = m at hbd
    obtain ⟨p, q, r, t⟩ := m
    simp only [M4.Bd] at hbd
    rcases hl with e | e | e | e <;> rw [e] at hx ⊢ <;> simp (disch := omega) [f0, f2, f3, f4, hp', hx, wrap_i64, M4.step, M4.V, r0, r1, r2, r3, r4, splice] <;> exact ⟨hp, by omega⟩
  · have hp' : ((i : Int) < (s.size : Int)) = False := eq_false (by omega)
    have hi : i = s.size := by omega
    subst hi
    simp [f0, f2, f3, f4, hp', M4.V, r4, splice]
    exact hK
theorem matrix_r {H : Hp} {lim : Nat} {s : ByteArray} {K : V → Hp → Prop} (hs : s.size ≤ 1000000)
    (h1 : vld s = true → K (.tup [.agg (mat (chT s) s.size).V, .int .i64 0]) H) (h0 : vld s = false → K (.tup [.agg z4V, .int .i64 1]) H) : VCall tbl lim 43 [.str s] H K := by
  refine VCall_fn tbl_at43 rfl ?_
  simp [vf43]
  refine valid_r hs ?_
  cases hv : vld s with
  | false =>
    simp [splice]
    exact h0 hv
  | true =>
    simp
    refine matrix0_r hv ?_
    simp [splice, M4.V]
    exact h1 hv
end Go.Proofs.YtalejadhccgckaaDoor.Vm
