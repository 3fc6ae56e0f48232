/- Texts of numbers (pure): words between bytes, numerals, and reading them back. -/
import Derived.Lib.SplitLaws
import Derived.Lib.AtoiTie
import Derived.Lib.AtoiAllCases
import Derived.Lib.ItoaMem
import Derived.Lib.IndexBytes
import Derived.Lib.IndexMore
namespace Go.Proofs.YtgjlhdggllakbaaDoor.Vm
open Go
set_option linter.unusedSimpArgs false
set_option linter.unusedVariables false

/-- the words between the byte c -/
def wds (c : UInt8) : List UInt8 → List (List UInt8)
  | [] => [[]]
  | b :: r => if b = c then [] :: wds c r else match wds c r with
    | [] => [[b]]
    | w :: ws => (b :: w) :: ws
theorem wds_free {c : UInt8} : ∀ {p : List UInt8}, c ∉ p → wds c p = [p]
  | [], _ => rfl
  | b :: p, h => by
    have h1 : ¬ b = c := fun e => h (by simp [e])
    have h2 : c ∉ p := fun e => h (by simp [e])
    rw [wds, if_neg h1, wds_free h2]
theorem wds_app {c : UInt8} {q : List UInt8} : ∀ {p : List UInt8}, c ∉ p → wds c (p ++ c :: q) = p :: wds c q
  | [], _ => by simp [wds]
  | b :: p, h => by
    have h1 : ¬ b = c := fun e => h (by simp [e])
    have h2 : c ∉ p := fun e => h (by simp [e])
    rw [List.cons_append, wds, if_neg h1, wds_app h2]
theorem at_byte {c : UInt8} : ∀ s : List UInt8, (Lib.indexByte s c = -1 ∧ c ∉ s) ∨ ∃ p q, s = p ++ c :: q ∧ c ∉ p ∧ Lib.indexByte s c = p.length
  | [] => .inl ⟨rfl, by simp⟩
  | b :: s => by
    by_cases h : b = c
    · subst h
      exact .inr ⟨[], s, rfl, by simp, by simp [Lib.indexByte]⟩
    · have hb : (b == c) = false := by simpa using h
      rcases at_byte (c := c) s with ⟨h1, h2⟩ | ⟨p, q, rfl, h1, h2⟩
      · refine .inl ⟨by simp [Lib.indexByte, hb, h1], ?_⟩
        intro e
        rcases List.mem_cons.1 e with e | e
        · exact h e.symm
        · exact h2 e
      · refine .inr ⟨b :: p, q, rfl, ?_, ?_⟩
        · intro e
          rcases List.mem_cons.1 e with e | e
          · exact h e.symm
          · exact h1 e
        · have hn : ((p.length : Int) == -1) = false := by simp
          simp only [Lib.indexByte, hb, h2, hn, Bool.false_eq_true, if_false, List.length_cons]
          omega
/-- the library's Split at one byte -/
theorem split_wds {c : UInt8} : ∀ (k : Nat) (s : List UInt8), s.count c = k → Lib.splitK [c] 0 k s = wds c s
  | 0, s, h => by
    rw [Lib.splitK, wds_free (List.count_eq_zero.1 h)]
  | k + 1, s, h => by
    rcases at_byte (c := c) s with ⟨h1, h2⟩ | ⟨p, q, rfl, h1, h2⟩
    · rw [List.count_eq_zero.2 h2] at h; cases h
    · have hp : p.count c = 0 := List.count_eq_zero.2 h1
      rw [List.count_append, List.count_cons_self, hp] at h
      have hn : ((p.length : Int) == -1) = false := by simp
      rw [Lib.splitK, Lib.index_one, h2]
      simp only [hn, Bool.false_eq_true, if_false, Int.toNat_natCast, Nat.add_zero, List.length_cons, List.length_nil, Nat.zero_add]
      have e1 : (p ++ c :: q).take p.length = p := by simp
      have e2 : (p ++ c :: q).drop (p.length + 1) = q := by
        rw [List.drop_append]; simp
      rw [e1, e2, split_wds k q (by omega), wds_app h1]
/-! numerals -/
def isDg (b : UInt8) : Prop := 48 ≤ b.toNat ∧ b.toNat ≤ 57
theorem dg_of {d : Nat} (h : d < 10) : isDg (UInt8.ofNat (48 + d)) ∧ (UInt8.ofNat (48 + d)).toNat = 48 + d := by
  have e : (UInt8.ofNat (48 + d)).toNat = 48 + d := by simp; omega
  exact ⟨⟨by omega, by omega⟩, e⟩
theorem dd_big {u : Nat} (h : ¬ u < 10) : Lib.decDigits u = Lib.decDigits (u / 10) ++ [UInt8.ofNat (48 + u % 10)] := by
  rw [Lib.decDigits, dif_neg h]
theorem dd_dg : ∀ u : Nat, ∀ b ∈ Lib.decDigits u, isDg b := by
  intro u
  induction u using Nat.strongRecOn with
  | _ u ih =>
    intro b hb
    by_cases h : u < 10
    · rw [Lib.decDigits_one h] at hb
      rw [List.mem_singleton.1 hb]
      exact (dg_of h).1
    · rw [dd_big h] at hb
      rcases List.mem_append.1 hb with hb | hb
      · exact ih (u / 10) (by omega) b hb
      · rw [List.mem_singleton.1 hb]
        exact (dg_of (by omega)).1
theorem dd_ne (u : Nat) : Lib.decDigits u ≠ [] := by
  by_cases h : u < 10
  · rw [Lib.decDigits_one h]; simp
  · rw [dd_big h]; simp
theorem parse_snoc {b : UInt8} (hb : isDg b) : ∀ {l : List UInt8} {a v : Nat}, Lib.parseUint10 a l = .ok v → v < 1844674407370955161 → Lib.parseUint10 a (l ++ [b]) = .ok (v * 10 + (b.toNat - 48))
  | [], a, v, h, hv => by
    simp only [Lib.parseUint10] at h
    injection h with h; subst h
    obtain ⟨h1, h2⟩ := hb
    simp only [List.nil_append, Lib.parseUint10]
    rw [if_pos ⟨h1, h2⟩, if_neg (by omega), if_neg (by omega)]
  | c :: l, a, v, h, hv => by
    simp only [List.cons_append, Lib.parseUint10] at h ⊢
    split at h
    · split at h
      · cases h
      · split at h
        · cases h
        · rename_i h1 h2 h3
          rw [if_pos h1, if_neg h2, if_neg h3]
          exact parse_snoc hb h hv
    · cases h
theorem dd_parse (u : Nat) : u < 1844674407370955161 → Lib.parseUint10 0 (Lib.decDigits u) = .ok u := by
  induction u using Nat.strongRecOn with
  | _ u ih =>
    intro hu
    by_cases h : u < 10
    · rw [Lib.decDigits_one h]
      obtain ⟨h1, h2⟩ := dg_of h
      simp only [Lib.parseUint10]
      rw [if_pos (show 48 ≤ _ ∧ _ from h1), if_neg (by omega), h2, if_neg (by omega)]
      congr 1; omega
    · rw [dd_big h]
      obtain ⟨h1, h2⟩ := dg_of (d := u % 10) (by omega)
      rw [parse_snoc h1 (ih (u / 10) (by omega) (by omega)) (by omega), h2]
      congr 1; omega
theorem atoi_dd {u : Nat} (hu : u < 1000000000000) : Lib.atoiAll (Lib.decDigits u) = .ok (u : Int) := by
  have hp := dd_parse u (by omega)
  have hd := dd_dg u
  have hne := dd_ne u
  generalize Lib.decDigits u = l at hp hd hne
  cases l with
  | nil => exact absurd rfl hne
  | cons c r =>
    have hc := hd c (by simp)
    obtain ⟨a, b⟩ := hc
    rw [Lib.atoiAll_plain c r (by omega) (by omega), Lib.parseMag, if_neg hne, hp]
    simp only [Lib.signless]
    rw [if_neg (by omega)]
theorem dd_inj {u v : Nat} (hu : u < 1000000000000) (hv : v < 1000000000000) (h : Lib.decDigits u = Lib.decDigits v) : u = v := by
  have a := atoi_dd hu
  rw [h, atoi_dd hv] at a
  injection a with a; omega
theorem dg_not {u : Nat} {c : UInt8} (h : ¬ isDg c) : c ∉ Lib.decDigits u := fun hc => h (dd_dg u c hc)
/-- each number behind the byte c -/
def nums (c : UInt8) (l : List Nat) : List UInt8 := l.flatMap fun n => c :: Lib.decDigits n
theorem nums_cons {c : UInt8} {n : Nat} {l : List Nat} : nums c (n :: l) = c :: (Lib.decDigits n ++ nums c l) := by simp [nums]
theorem wds_nums {c : UInt8} (hc : ¬ isDg c) {p q : List UInt8} (hp : c ∉ p) : ∀ {l : List Nat}, wds c (p ++ nums c l ++ c :: q) = p :: (l.map Lib.decDigits ++ wds c q)
  | [] => by simp [nums, wds_app hp]
  | n :: l => by
    have e : p ++ nums c (n :: l) ++ c :: q = p ++ c :: (Lib.decDigits n ++ nums c l ++ c :: q) := by rw [nums_cons]; simp
    rw [e, wds_app hp, wds_nums hc (dg_not hc)]; rfl
theorem wds_numsE {c : UInt8} (hc : ¬ isDg c) {p : List UInt8} (hp : c ∉ p) : ∀ {l : List Nat}, wds c (p ++ nums c l) = p :: l.map Lib.decDigits
  | [] => by simp [nums, wds_free hp]
  | n :: l => by
    have e : p ++ nums c (n :: l) = p ++ c :: (Lib.decDigits n ++ nums c l) := by rw [nums_cons]
    rw [e, wds_app hp, wds_numsE hc (dg_not hc)]; rfl
/-! the text of a bundle -/
def hairL : List UInt8 := [104, 97, 105, 114]
def wrongL : List UInt8 := [119, 114, 111, 110, 103]
def fmtH (r w : List Nat) : List UInt8 := hairL ++ nums 32 r ++ 32 :: (wrongL ++ nums 32 w)
theorem wds_fmtH {r w : List Nat} : wds 32 (fmtH r w) = hairL :: (r.map Lib.decDigits ++ wrongL :: w.map Lib.decDigits) := by
  have h32 : ¬ isDg 32 := by unfold isDg; decide
  unfold fmtH
  rw [wds_nums h32 (by decide), wds_numsE h32 (by decide)]
/-- the program's reader, word by word -/
structure RdH where
  k : Bool
  r : List Int
  w : List Int
  deriving DecidableEq
def RdH.num (x : RdH) : Lib.NumEnd Int → RdH
  | .ok n => if x.k then ⟨true, x.r, x.w ++ [n]⟩ else ⟨false, x.r ++ [n], x.w⟩
  | _ => x
def RdH.step (x : RdH) (w : List UInt8) : RdH := (if w = wrongL then { x with k := true } else x).num (Lib.atoiAll w)
def rdH (l : List (List UInt8)) : RdH := l.foldl RdH.step ⟨false, [], []⟩
def ints' (l : List Nat) : List Int := l.map fun n : Nat => (n : Int)
def bigL (l : List Nat) : Prop := ∀ n ∈ l, n < 1000000000000
theorem dd_wrong {n : Nat} : Lib.decDigits n ≠ wrongL := fun e => by
  have := dd_dg n 119 (by rw [e]; decide)
  revert this; unfold isDg; decide
theorem rd_right : ∀ {l : List Nat} {r w : List Int}, bigL l → (l.map Lib.decDigits).foldl RdH.step ⟨false, r, w⟩ = ⟨false, r ++ ints' l, w⟩
  | [], r, w, _ => by simp [ints']
  | n :: l, r, w, h => by
    have e : RdH.step ⟨false, r, w⟩ (Lib.decDigits n) = ⟨false, r ++ [(n : Int)], w⟩ := by
      unfold RdH.step
      rw [if_neg dd_wrong, atoi_dd (h n (by simp))]; rfl
    rw [List.map_cons, List.foldl_cons, e, rd_right fun m hm => h m (by simp [hm])]
    simp [ints']
theorem rd_wrong : ∀ {l : List Nat} {r w : List Int}, bigL l → (l.map Lib.decDigits).foldl RdH.step ⟨true, r, w⟩ = ⟨true, r, w ++ ints' l⟩
  | [], r, w, _ => by simp [ints']
  | n :: l, r, w, h => by
    have e : RdH.step ⟨true, r, w⟩ (Lib.decDigits n) = ⟨true, r, w ++ [(n : Int)]⟩ := by
      unfold RdH.step
      rw [if_neg dd_wrong, atoi_dd (h n (by simp))]; rfl
    rw [List.map_cons, List.foldl_cons, e, rd_wrong fun m hm => h m (by simp [hm])]
    simp [ints']
/-- what was written is read -/
theorem rd_fmtH {r w : List Nat} (hr : bigL r) (hw : bigL w) : rdH (wds 32 (fmtH r w)) = ⟨true, ints' r, ints' w⟩ := by
  have e1 : RdH.step ⟨false, [], []⟩ hairL = ⟨false, [], []⟩ := by decide +kernel
  have e2 : ∀ r, RdH.step ⟨false, r, []⟩ wrongL = ⟨true, r, []⟩ := fun r => by
    have h : Lib.atoiAll wrongL = .syntax := by decide +kernel
    unfold RdH.step
    rw [if_pos rfl, h]; rfl
  unfold rdH
  rw [wds_fmtH, List.foldl_cons, e1, List.foldl_append, rd_right hr, List.foldl_cons, e2, rd_wrong hw]
  simp
end Go.Proofs.YtgjlhdggllakbaaDoor.Vm
