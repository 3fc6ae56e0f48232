/- Fields of directions over the machine: edges. -/
import Derived.Test.YtnfhccioglpjhaaHaC
namespace Go.Proofs.Ytnfhccioglpjhaa.Vm
open Go
set_option maxRecDepth 100000
set_option linter.unusedSimpArgs false
set_option linter.unusedVariables false
attribute [-simp] List.getD_eq_getElem?_getD

structure Ed where
  x : Int
  y : Int
  u : Int
  deriving Inhabited, DecidableEq
def Ed.cells (e : Ed) : List V := [.int .i64 e.x, .int .i64 e.y, .int .i64 e.u]
def Ed.in64 (e : Ed) : Prop := I64 e.x ∧ I64 e.y ∧ I64 e.u
def edC : Cod Ed 3 := ⟨Ed.cells, fun _ => rfl⟩
theorem edC_def {e : Ed} : edC.cells e = [.int .i64 e.x, .int .i64 e.y, .int .i64 e.u] := Eq.trans rfl rfl
/-- a slice of edges -/
structure EdV (H : Hp) (v : V) (l : List Ed) : Prop where
  lst : LstV edC H v l
  all : ∀ e ∈ l, e.in64

theorem rd4_0 {a b c d : V} : rd none [a, b, c, d] 0 = some a := Eq.trans rfl rfl
theorem rd4_1 {a b c d : V} : rd none [a, b, c, d] 1 = some b := Eq.trans rfl rfl
theorem rd4_2 {a b c d : V} : rd none [a, b, c, d] 2 = some c := Eq.trans rfl rfl
theorem rd4_3 {a b c d : V} : rd none [a, b, c, d] 3 = some d := Eq.trans rfl rfl
theorem rd4_w {a b c d : V} : rd (some 4) [a, b, c, d] 0 = some (.agg [a, b, c, d]) := Eq.trans rfl rfl
theorem rd4_z {a b c d : V} : rd (some 3) [a, b, c, d] 0 = some (.agg [a, b, c]) := Eq.trans rfl rfl
theorem rd3_0 {a b c : V} : rd none [a, b, c] 0 = some a := Eq.trans rfl rfl
theorem rd3_1 {a b c : V} : rd none [a, b, c] 1 = some b := Eq.trans rfl rfl
theorem rd3_2 {a b c : V} : rd none [a, b, c] 2 = some c := Eq.trans rfl rfl
theorem rd3_w {a b c : V} : rd (some 3) [a, b, c] 0 = some (.agg [a, b, c]) := Eq.trans rfl rfl
theorem splice33 {a b c x y z : V} : splice [a, b, c] 0 [x, y, z] = [x, y, z] := by simp [splice]
theorem splice44 {a b c d x y z w : V} : splice [a, b, c, d] 0 [x, y, z, w] = [x, y, z, w] := by simp [splice]
theorem splice30 {a b c x : V} : splice [a, b, c] 0 [x] = [x, b, c] := by simp [splice]
theorem splice31 {a b c x : V} : splice [a, b, c] 1 [x] = [a, x, c] := by simp [splice]
theorem splice32 {a b c x : V} : splice [a, b, c] 2 [x] = [a, b, x] := by simp [splice]
theorem splice40 {a b c d x : V} : splice [a, b, c, d] 0 [x] = [x, b, c, d] := by simp [splice]
theorem splice41 {a b c d x : V} : splice [a, b, c, d] 1 [x] = [a, x, c, d] := by simp [splice]
theorem splice42 {a b c d x : V} : splice [a, b, c, d] 2 [x] = [a, b, x, d] := by simp [splice]
theorem splice43 {a b c d x : V} : splice [a, b, c, d] 3 [x] = [a, b, c, x] := by simp [splice]
attribute [simp] splice30 splice31 splice32 splice40 splice41 splice42 splice43 rd4_0 rd4_1 rd4_2 rd4_3 rd4_w rd4_z rd3_0 rd3_1 rd3_2 rd3_w splice33 splice44
theorem veqA_3 {a b c x y z : Int} {neg : Bool} : veqA neg [.int .i64, .int .i64, .int .i64] (.agg [.int .i64 a, .int .i64 b, .int .i64 c]) (.agg [.int .i64 x, .int .i64 y, .int .i64 z]) = some (.bool (if neg then !(decide (a = x) && (decide (b = y) && decide (c = z))) else decide (a = x) && (decide (b = y) && decide (c = z)))) := by
  simp [veqA, eqCells, eqCell]
  cases neg <;> rfl
theorem lastO {α : Type} {X : List α} {c : α} : (X ++ [c])[X.length]? = some c := by simp
theorem lastS {α : Type} {X : List α} {c d : α} : (X ++ [c]).set X.length d = X ++ [d] := by simp

/-- all of the first n -/
def allN (f : Nat → Bool) : Nat → Bool
  | 0 => true
  | n + 1 => allN f n && f n
theorem allN_at {f : Nat → Bool} : ∀ {n : Nat}, allN f n = true → ∀ {i : Nat}, i < n → f i = true
  | 0, _, i, hi => by omega
  | n + 1, h, i, hi => by
    simp only [allN, Bool.and_eq_true] at h
    by_cases e : i = n
    · subst e; exact h.2
    · exact allN_at h.1 (by omega)
theorem allN_not {f : Nat → Bool} {n i : Nat} (hi : i < n) (hf : f i = false) : allN f n = false := by
  cases h : allN f n with
  | false => rfl
  | true => rw [allN_at h hi] at hf; cases hf
theorem allN_congr {f g : Nat → Bool} : ∀ {n : Nat}, (∀ i, i < n → f i = g i) → allN f n = allN g n
  | 0, _ => rfl
  | n + 1, h => by simp only [allN]; rw [allN_congr fun i hi => h i (by omega), h n (by omega)]

def isEB (W Q x y u : Int) : Bool := decide ((u = 0 ∧ 0 ≤ x ∧ x < W - 1 ∧ 0 ≤ y ∧ y < Q) ∨ (u = 1 ∧ 0 ≤ x ∧ x < W ∧ 0 ≤ y ∧ y < Q - 1))
def bef (a b : Ed) : Prop := a.x < b.x ∨ (a.x = b.x ∧ (a.y < b.y ∨ (a.y = b.y ∧ a.u < b.u)))
instance {a b : Ed} : Decidable (bef a b) := by unfold bef; infer_instance
def upL (w q x y : Nat) : Nat → List Ed
  | 0 => []
  | u + 1 => upL w q x y u ++ (if isEB w q x y u = true then [⟨x, y, u⟩] else [])
def rowL (w q x : Nat) : Nat → List Ed
  | 0 => []
  | y + 1 => rowL w q x y ++ upL w q x y 2
def edL (w q : Nat) : Nat → List Ed
  | 0 => []
  | x + 1 => edL w q x ++ rowL w q x q
theorem upL_len {w q x y : Nat} : ∀ u, (upL w q x y u).length ≤ u
  | 0 => by simp [upL]
  | u + 1 => by
    have := upL_len (w := w) (q := q) (x := x) (y := y) u
    simp only [upL, List.length_append]; split <;> simp <;> omega
theorem rowL_len {w q x : Nat} : ∀ y, (rowL w q x y).length ≤ 2 * y
  | 0 => by simp [rowL]
  | y + 1 => by
    have := rowL_len (w := w) (q := q) (x := x) y
    have := upL_len (w := w) (q := q) (x := x) (y := y) 2
    simp only [rowL, List.length_append]; omega
theorem edL_len {w q : Nat} (hq : q ≤ 12) : ∀ x, (edL w q x).length ≤ 24 * x
  | 0 => by simp [edL]
  | x + 1 => by
    have := edL_len (w := w) hq x
    have := rowL_len (w := w) (q := q) (x := x) q
    simp only [edL, List.length_append]; omega
def edOk (w q : Nat) (l : List Ed) : Prop := ∀ e ∈ l, isEB w q e.x e.y e.u = true
theorem edOk.app {w q : Nat} {l m : List Ed} (h : edOk w q l) (h2 : edOk w q m) : edOk w q (l ++ m) := by
  intro e he
  rcases List.mem_append.1 he with he | he
  · exact h e he
  · exact h2 e he
theorem upL_ok {w q x y : Nat} : ∀ u, edOk w q (upL w q x y u)
  | 0 => by intro e he; simp [upL] at he
  | u + 1 => by
    refine (upL_ok u).app ?_
    intro e he
    split at he
    · rename_i h; simp at he; subst he; exact h
    · simp at he
theorem rowL_ok {w q x : Nat} : ∀ y, edOk w q (rowL w q x y)
  | 0 => by intro e he; simp [rowL] at he
  | y + 1 => (rowL_ok y).app (upL_ok 2)
theorem edL_ok {w q : Nat} : ∀ x, edOk w q (edL w q x)
  | 0 => by intro e he; simp [edL] at he
  | x + 1 => (edL_ok x).app (rowL_ok q)

section
variable {lim : Nat} {H : Hp} {K : V → Hp → Prop} {v d p : V} {l : List Ed} {W Q x y u : Int}
theorem EdV.len (h : EdV H v l) : vlenS v = some (.int .i64 l.length) := h.lst.len
theorem EdV.stor (h : EdV H v l) : stor v = true := h.lst.stor
theorem EdV.one (h : EdV H v l) : cellsV v = [v] := h.lst.one
theorem EdV.mono {H' : Hp} (hx : HX H H') (h : EdV H v l) : EdV H' v l := ⟨h.lst.mono hx, h.all⟩
theorem EdV.addr (h : EdV H v l) {i : Int} (hi : 0 ≤ i ∧ i < l.length) : viaddrS 3 v (.int .i64 i) = some (ept 3 v i.toNat) := h.lst.addr hi
theorem EdV.load (h : EdV H v l) {i : Nat} (hi : i < l.length) {L : Lo} : vload (some 3) L H (ept 3 v i) = some (.agg [.int .i64 (l.getD i default).x, .int .i64 (l.getD i default).y, .int .i64 (l.getD i default).u]) := h.lst.load hi
theorem EdV.in64 (h : EdV H v l) {i : Nat} (hi : i < l.length) : (l.getD i default).in64 := h.all _ (by simp [List.getD_eq_getElem?_getD, hi])

theorem flow_isPlace (hd : Vm.stor d = true) (hp : Vm.stor p = true) (hK : K (.bool (decide (0 ≤ x ∧ x < W ∧ 0 ≤ y ∧ y < Q))) H) : VCall tbl lim 16 [.agg [.int .i64 W, .int .i64 Q, d, p], .int .i64 x, .int .i64 y] H K := by
  refine VCall_fn tbl_at16 rfl ?_
  simp [vf16, hd, hp]
  simpa [Bool.and_assoc] using hK
theorem flow_isSquare (hd : Vm.stor d = true) (hp : Vm.stor p = true) (hW : 1 ≤ W ∧ W ≤ 12) (hQ : 1 ≤ Q ∧ Q ≤ 12) (hK : K (.bool (decide (0 ≤ x ∧ x < W - 1 ∧ 0 ≤ y ∧ y < Q - 1))) H) : VCall tbl lim 32 [.agg [.int .i64 W, .int .i64 Q, d, p], .int .i64 x, .int .i64 y] H K := by
  refine VCall_fn tbl_at32 rfl ?_
  simp (disch := omega) [vf32, hd, hp, wrap_i64]
  simpa [Bool.and_assoc] using hK
theorem ref_within {n a b : Int} (hK : K (.bool (decide (a ≤ n ∧ n ≤ b))) H) : VCall tbl lim 21 [.int .i64 n, .int .i64 a, .int .i64 b] H K := by
  refine VCall_fn tbl_at21 rfl ?_
  simp [vf21]
  simpa [Bool.and_assoc] using hK
theorem flow_isEdge (hd : Vm.stor d = true) (hp : Vm.stor p = true) (hW : 1 ≤ W ∧ W ≤ 12) (hQ : 1 ≤ Q ∧ Q ≤ 12) (hK : K (.bool (isEB W Q x y u)) H) : VCall tbl lim 23 [.agg [.int .i64 W, .int .i64 Q, d, p], .agg [.int .i64 x, .int .i64 y, .int .i64 u]] H K := by
  refine VCall_fn tbl_at23 rfl ?_
  simp (disch := omega) [vf23, hd, hp, wrap_i64]
  refine cond_dec (fun h => ?_) fun h => ?_
  · subst h
    simp [hd, hp]
    refine flow_isPlace hd hp ?_
    simp (disch := omega) [wrap_i64]
    have e : isEB W Q x y 0 = (decide (0 ≤ x ∧ x < W ∧ 0 ≤ y ∧ y < Q) && decide (x < W - 1)) := by
      rw [Bool.eq_iff_iff]; simp [isEB]; omega
    rw [e] at hK
    simpa using hK
  · simp
    refine cond_dec (fun h => ?_) fun h1 => ?_
    · subst h
      simp [hd, hp]
      refine flow_isPlace hd hp ?_
      simp (disch := omega) [wrap_i64]
      have e : isEB W Q x y 1 = (decide (0 ≤ x ∧ x < W ∧ 0 ≤ y ∧ y < Q) && decide (y < Q - 1)) := by
        rw [Bool.eq_iff_iff]; simp [isEB]; omega
      rw [e] at hK
      simpa using hK
    · have e : isEB W Q x y u = false := by simp [isEB, h, h1]
      rw [e] at hK
      simpa using hK
theorem ref_isEdge (hd : Vm.stor d = true) (hp : Vm.stor p = true) (hW : 1 ≤ W ∧ W ≤ 12) (hQ : 1 ≤ Q ∧ Q ≤ 12) (hK : K (.bool (isEB W Q x y u)) H) : VCall tbl lim 28 [.agg [.int .i64 W, .int .i64 Q, d, p], .agg [.int .i64 x, .int .i64 y, .int .i64 u]] H K := by
  refine VCall_fn tbl_at28 rfl ?_
  by_cases h0 : u = 0
  · subst h0
    have e : isEB W Q x y 0 = (decide (0 ≤ x ∧ x ≤ W - 2) && decide (0 ≤ y ∧ y ≤ Q - 1)) := by
      rw [Bool.eq_iff_iff]; simp [isEB]; omega
    rw [e] at hK
    by_cases h1 : 0 ≤ x ∧ x ≤ W - 2
    · simp (disch := omega) [vf28, hd, hp, wrap_i64]
      refine ref_within ?_
      simp (disch := omega) [h1, wrap_i64]
      refine ref_within ?_
      simp [h1] at hK
      simpa using hK
    · simp (disch := omega) [vf28, hd, hp, wrap_i64]
      refine ref_within ?_
      simp (disch := omega) [h1, wrap_i64]
      simpa [h1] using hK
  by_cases h2 : u = 1
  · subst h2
    have e : isEB W Q x y 1 = (decide (0 ≤ x ∧ x ≤ W - 1) && decide (0 ≤ y ∧ y ≤ Q - 2)) := by
      rw [Bool.eq_iff_iff]; simp [isEB]; omega
    rw [e] at hK
    by_cases h1 : 0 ≤ x ∧ x ≤ W - 1
    · simp (disch := omega) [vf28, hd, hp, wrap_i64]
      refine ref_within ?_
      simp (disch := omega) [h1, wrap_i64]
      refine ref_within ?_
      simp [h1] at hK
      simpa using hK
    · simp (disch := omega) [vf28, hd, hp, wrap_i64]
      refine ref_within ?_
      simp (disch := omega) [h1, wrap_i64]
      simpa [h1] using hK
  have e : isEB W Q x y u = false := by simp [isEB, h0, h2]
  rw [e] at hK
  simp (disch := omega) [vf28, hd, hp, wrap_i64, h0, h2]
  exact hK
theorem ref_before {a b : Ed} (hK : K (.bool (decide (bef a b))) H) : VCall tbl lim 38 [.agg [.int .i64 a.x, .int .i64 a.y, .int .i64 a.u], .agg [.int .i64 b.x, .int .i64 b.y, .int .i64 b.u]] H K := by
  refine VCall_fn tbl_at38 rfl ?_
  simp [vf38]
  refine cond_ndec (fun h => ?_) fun h => ?_
  · have e : decide (bef a b) = decide (a.x < b.x) := by simp [bef, h]
    rw [e] at hK
    simpa using hK
  simp
  refine cond_ndec (fun h1 => ?_) fun h1 => ?_
  · have e : decide (bef a b) = decide (a.y < b.y) := by simp [bef, h, h1]
    rw [e] at hK
    simpa using hK
  · have e : decide (bef a b) = decide (a.u < b.u) := by simp [bef, h, h1]
    rw [e] at hK
    simpa using hK
end
end Go.Proofs.Ytnfhccioglpjhaa.Vm
