/- Package plot over the machine: plays. -/
import Derived.Test.YtkmcdiajcnejiaaVmTab
import Derived.Test.YtkmcdiajcnejiaaVmRec
import Derived.Test.YtkmcdiajcnejiaaVmMove
namespace Go.Proofs.Ytkmcdiajcnejiaa.Vm
open Go
set_option maxRecDepth 100000
set_option linter.unusedSimpArgs false
set_option linter.unusedVariables false
attribute [-simp] List.getD_eq_getElem?_getD

theorem rd3_0 {a b c : V} : rd none [a, b, c] 0 = some a := Eq.trans rfl rfl
theorem rd3_1 {a b c : V} : rd none [a, b, c] 1 = some b := Eq.trans rfl rfl
theorem rd3_2 {a b c : V} : rd none [a, b, c] 2 = some c := Eq.trans rfl rfl
theorem rd3_w {a b c : V} : rd (some 3) [a, b, c] 0 = some (.agg [a, b, c]) := Eq.trans rfl rfl
theorem rd4_0 {a b c d : V} : rd none [a, b, c, d] 0 = some a := Eq.trans rfl rfl
theorem rd4_1 {a b c d : V} : rd none [a, b, c, d] 1 = some b := Eq.trans rfl rfl
theorem rd4_2 {a b c d : V} : rd none [a, b, c, d] 2 = some c := Eq.trans rfl rfl
theorem rd4_3 {a b c d : V} : rd none [a, b, c, d] 3 = some d := Eq.trans rfl rfl
theorem rd4_w {a b c d : V} : rd (some 4) [a, b, c, d] 0 = some (.agg [a, b, c, d]) := Eq.trans rfl rfl
theorem splice33 {a b c x y z : V} : splice [a, b, c] 0 [x, y, z] = [x, y, z] := by simp [splice]
theorem splice44 {a b c d x y z w : V} : splice [a, b, c, d] 0 [x, y, z, w] = [x, y, z, w] := by simp [splice]
theorem iz4 : ints (zs 4) = [.int .i64 0, .int .i64 0, .int .i64 0, .int .i64 0] := Eq.trans rfl rfl
theorem iz3 : ints (zs 3) = [.int .i64 0, .int .i64 0, .int .i64 0] := Eq.trans rfl rfl
theorem iz2 : ints (zs 2) = [.int .i64 0, .int .i64 0] := Eq.trans rfl rfl
attribute [simp] rd3_0 rd3_1 rd3_2 rd3_w rd4_0 rd4_1 rd4_2 rd4_3 rd4_w splice33 splice44
theorem vwant_dv {b : Bool} {l : List V} : vwant b (.tup l) = false := Eq.trans rfl rfl
attribute [simp] vwant_dv
theorem lastO {α : Type} {X : List α} {c : α} : (X ++ [c])[X.length]? = some c := by simp
theorem lastS {α : Type} {X : List α} {c d : α} : (X ++ [c]).set X.length d = X ++ [d] := by simp

theorem keepL {L : Lo} {q : Nat} {c : List V} (h : L[q]? = some c) : ∀ d, (L ++ [d])[q]? = some c := fun d => by
  rw [List.getElem?_append_left (List.getElem?_eq_some_iff.1 h).1]; exact h
theorem getD_take {α : Type} [Inhabited α] {l : List α} {n k : Nat} (h : k < n) : (l.take n).getD k default = l.getD k default := by
  simp only [List.getD_eq_getElem?_getD, List.getElem?_take_of_lt h]

def allN (f : Nat → Bool) : Nat → Bool
  | 0 => true
  | n + 1 => allN f n && f n
theorem allN_at {f : Nat → Bool} : ∀ {n : Nat}, allN f n = true → ∀ {i : Nat}, i < n → f i = true
  | n + 1, h, i, hi => by
    simp only [allN, Bool.and_eq_true] at h
    by_cases e : i = n
    · subst e; exact h.2
    · exact allN_at h.1 (by omega)
theorem allN_of {f : Nat → Bool} : ∀ {n : Nat}, (∀ i, i < n → f i = true) → allN f n = true
  | 0, _ => rfl
  | n + 1, h => by simp only [allN, h n (by omega), Bool.and_true]; exact allN_of fun i hi => h i (by omega)
theorem allN_not {f : Nat → Bool} {n i : Nat} (hi : i < n) (hf : f i = false) : allN f n = false := by
  cases h : allN f n with
  | false => rfl
  | true => rw [allN_at h hi] at hf; cases hf

structure Wr where
  a : Int
  s : Int
  f : Int
  t : Int
  deriving Inhabited
def Wr.cells (e : Wr) : List V := [.int .i64 e.a, .int .i64 e.s, .int .i64 e.f, .int .i64 e.t]
def wrC : Cod Wr 4 := ⟨Wr.cells, fun _ => rfl⟩
structure Ply where
  W : List Wr
  rd : Int
  ch : Int
inductive PlyV (H : Hp) : List V → Ply → Prop
  | mk {wv : V} {W : List Wr} {r c : Int} : LstV wrC H wv W → I64 r → I64 c → PlyV H [wv, .int .i64 r, .int .i64 c] ⟨W, r, c⟩
theorem ply_of {H : Hp} {ws : List V} {ds : List CD} (h : RepTs H [.sl [cInt, cInt, cInt, cInt], cInt, cInt] ws ds) : ∃ f, PlyV H ws f := by
  obtain ⟨v0, u0, _, _, rfl, _, p0, q0⟩ := reps_cons h
  obtain ⟨v1, u1, _, _, rfl, _, p1, q1⟩ := reps_cons q0
  obtain ⟨v2, u2, _, _, rfl, _, p2, q2⟩ := reps_cons q1
  have e := reps_nil q2
  subst e
  obtain ⟨l1, h1, _, _⟩ := lst_of (c := wrC) rfl (fun z => True) (fun vs ds h => by
    obtain ⟨v0, u0, _, _, rfl, _, p0, q0⟩ := reps_cons h
    obtain ⟨v1, u1, _, _, rfl, _, p1, q1⟩ := reps_cons q0
    obtain ⟨v2, u2, _, _, rfl, _, p2, q2⟩ := reps_cons q1
    obtain ⟨v3, u3, _, _, rfl, _, p3, q3⟩ := reps_cons q2
    have e := reps_nil q3
    subst e
    obtain ⟨n0, rfl, c0⟩ := int_of p0
    obtain ⟨n1, rfl, c1⟩ := int_of p1
    obtain ⟨n2, rfl, c2⟩ := int_of p2
    obtain ⟨n3, rfl, c3⟩ := int_of p3
    exact ⟨⟨n0, n1, n2, n3⟩, rfl, trivial⟩) p0
  obtain ⟨r, rfl, cr⟩ := int_of p1
  obtain ⟨c, rfl, cc⟩ := int_of p2
  exact ⟨⟨l1, r, c⟩, .mk h1 cr cc⟩

def minB (n : Int) : Bool := decide (0 ≤ n ∧ n ≤ 600)
def wrB (w : Wr) : Bool := decide (0 ≤ w.a ∧ w.a ≤ 99 ∧ 1 ≤ w.s ∧ w.s ≤ 99 ∧ 0 ≤ w.f ∧ w.f < w.t ∧ w.t ≤ 600)
/-- the later one of two times begins less than a pause behind the end of the earlier one, or both begin together -/
def tightB (v w : Wr) (m : Int) : Bool := if v.f < w.f then decide (w.f < v.t + m) else if w.f < v.f then decide (v.f < w.t + m) else true
def oneB (p : Ply) (i k : Nat) : Bool := decide ((p.W.getD i default).a = (p.W.getD k default).a) && tightB (p.W.getD i default) (p.W.getD k default) p.ch
def valP (p : Ply) : Int :=
  if 16 < p.W.length then 4 else if (minB p.rd && minB p.ch) = false then 1 else if allN (fun i => wrB (p.W.getD i default)) p.W.length = false then 1
  else if allN (fun i => allN (fun k => !oneB p i k) i) p.W.length = false then 10 else 0
theorem valP_ok {p : Ply} (h : valP p = 0) : p.W.length ≤ 16 ∧ (0 ≤ p.rd ∧ p.rd ≤ 600) ∧ (0 ≤ p.ch ∧ p.ch ≤ 600) ∧ (∀ i, i < p.W.length → wrB (p.W.getD i default) = true) ∧ ∀ i, i < p.W.length → ∀ k, k < i → oneB p i k = false := by
  unfold valP at h
  split at h
  · cases h
  split at h
  · cases h
  rename_i h1 h2
  split at h
  · cases h
  rename_i h3
  split at h
  · cases h
  rename_i h4
  simp only [minB, Bool.not_eq_false, Bool.and_eq_true, decide_eq_true_eq] at h2 h3 h4
  exact ⟨by omega, h2.1, h2.2, fun i hi => allN_at h3 hi, fun i hi k hk => by have := allN_at (allN_at h4 hi) hk; simpa using this⟩
theorem tightB_comm {v w : Wr} {m : Int} : tightB v w m = tightB w v m := by
  unfold tightB
  split
  · rename_i h; rw [if_neg (by omega)]
  · split
    · rfl
    · rfl
def clashB (p : Ply) (v w : Wr) : Bool := decide (v.s ≠ w.s) || tightB v w p.rd
theorem clashB_comm {p : Ply} {v w : Wr} : clashB p v w = clashB p w v := by
  unfold clashB
  rw [tightB_comm]
  congr 1
  simp only [ne_eq, decide_eq_decide]; constructor <;> intro h e <;> exact h e.symm
theorem wrB_spec {w : Wr} (h : wrB w = true) : 0 ≤ w.a ∧ w.a ≤ 99 ∧ 1 ≤ w.s ∧ w.s ≤ 99 ∧ 0 ≤ w.f ∧ w.f < w.t ∧ w.t ≤ 600 := by simpa [wrB] using h

section
variable {lim : Nat} {H : Hp} {K : V → Hp → Prop} {wv : V} {p : Ply} {n m x y : Int} {v w : Wr}
theorem wr_load {W : List Wr} (h : LstV wrC H wv W) {i : Nat} (hi : i < W.length) {L : Lo} : vload (some 4) L H (ept 4 wv i) = some (.agg [.int .i64 (W.getD i default).a, .int .i64 (W.getD i default).s, .int .i64 (W.getD i default).f, .int .i64 (W.getD i default).t]) := h.load hi
theorem wr_get {W : List Wr} (h : LstV wrC H wv W) {i j : Nat} (hi : i < W.length) (hj : j < 4) {L : Lo} : vload none L H (eptf 4 wv i j) = rd none [.int .i64 (W.getD i default).a, .int .i64 (W.getD i default).s, .int .i64 (W.getD i default).f, .int .i64 (W.getD i default).t] j := h.rd1 hi hj
theorem law_known (hlim : lim ≤ H.length) (hK : ∀ H', HX H H' → K (.bool true) H') : VCall tbl lim 30 [] H K :=
  vcall_known (n := 200) (by kernel_rfl) hlim fun X => hK _ ⟨X, rfl⟩
theorem plot_isMinute (hK : K (.bool (minB n)) H) : VCall tbl lim 83 [.int .i64 n] H K := by
  refine VCall_fn tbl_at83 rfl ?_
  simp [vf83]
  simpa [minB] using hK
theorem ref_within (hK : K (.bool (decide (x ≤ n ∧ n ≤ y))) H) : VCall tbl lim 85 [.int .i64 n, .int .i64 x, .int .i64 y] H K := by
  refine VCall_fn tbl_at85 rfl ?_
  simp [vf85]
  simpa using hK
theorem plot_meet (hv : wrB v = true) (hw : wrB w = true) (hm : 0 ≤ m ∧ m ≤ 600) (hK : K (.bool (tightB v w m)) H) : VCall tbl lim 84 [.agg v.cells, .agg w.cells, .int .i64 m] H K := by
  refine VCall_fn tbl_at84 rfl ?_
  have hv := wrB_spec hv
  have hw := wrB_spec hw
  simp [vf84, Wr.cells]
  refine cond_dec (fun h => ?_) fun h => ?_
  · simp (disch := omega) [wrap_i64]
    simpa [tightB, h, show ¬ v.f < w.f by omega] using hK
  · simp (disch := omega) [wrap_i64]
    by_cases e : v.f < w.f
    · simpa [tightB, h, e] using hK
    · have : w.f < v.t + m := by omega
      simpa [tightB, h, e, this] using hK
theorem ref_tight (hv : wrB v = true) (hw : wrB w = true) (hm : 0 ≤ m ∧ m ≤ 600) (hK : K (.bool (tightB v w m)) H) : VCall tbl lim 86 [.agg v.cells, .agg w.cells, .int .i64 m] H K := by
  refine VCall_fn tbl_at86 rfl ?_
  have hv := wrB_spec hv
  have hw := wrB_spec hw
  simp [vf86, Wr.cells]
  refine cond_dec (fun h => ?_) fun h => ?_
  · simp (disch := omega) [wrap_i64]
    simpa [tightB, h] using hK
  · simp
    refine cond_dec (fun h2 => ?_) fun h2 => ?_
    · simp (disch := omega) [wrap_i64]
      simpa [tightB, h, h2] using hK
    · simp
      simpa [tightB, h, h2] using hK
theorem law_long {r c : Int} {W : List Wr} (hw : LstV wrC H wv W) (hK : K (.bool (decide (60 < W.length))) H) : VCall tbl lim 29 [.agg [wv, .int .i64 r, .int .i64 c]] H K := by
  refine VCall_fn tbl_at29 rfl ?_
  have e1 : decide (60 < (W.length : Int)) = decide (60 < W.length) := by simp only [decide_eq_decide]; omega
  simp [vf29, hw.len, hw.one, e1]
  exact hK
end
end Go.Proofs.Ytkmcdiajcnejiaa.Vm
