/- Fields of directions over the machine: Validate, indices. -/
import Derived.Test.YtgjlhdggllakbaaDoorHaC
namespace Go.Proofs.YtgjlhdggllakbaaDoor.Vm
open Go
set_option maxRecDepth 100000
set_option linter.unusedSimpArgs false
set_option linter.unusedVariables false
attribute [-simp] List.getD_eq_getElem?_getD

structure Ed where
  x : Int
  y : Int
  u : Int
  deriving Inhabited, DecidableEq
def Ed.cells (e : Ed) : List V := [.int .i64 e.x, .int .i64 e.y, .int .i64 e.u]
def Ed.in64 (e : Ed) : Prop := I64 e.x ∧ I64 e.y ∧ I64 e.u
def edC : Cod Ed 3 := ⟨Ed.cells, fun _ => rfl⟩
theorem edC_def {e : Ed} : edC.cells e = [.int .i64 e.x, .int .i64 e.y, .int .i64 e.u] := Eq.trans rfl rfl
/-- a slice of edges -/
structure EdV (H : Hp) (v : V) (l : List Ed) : Prop where
  lst : LstV edC H v l
  all : ∀ e ∈ l, e.in64

theorem rd4_0 {a b c d : V} : rd none [a, b, c, d] 0 = some a := Eq.trans rfl rfl
theorem rd4_1 {a b c d : V} : rd none [a, b, c, d] 1 = some b := Eq.trans rfl rfl
theorem rd4_2 {a b c d : V} : rd none [a, b, c, d] 2 = some c := Eq.trans rfl rfl
theorem rd4_3 {a b c d : V} : rd none [a, b, c, d] 3 = some d := Eq.trans rfl rfl
theorem rd4_w {a b c d : V} : rd (some 4) [a, b, c, d] 0 = some (.agg [a, b, c, d]) := Eq.trans rfl rfl
theorem rd4_z {a b c d : V} : rd (some 3) [a, b, c, d] 0 = some (.agg [a, b, c]) := Eq.trans rfl rfl
theorem rd3_0 {a b c : V} : rd none [a, b, c] 0 = some a := Eq.trans rfl rfl
theorem rd3_1 {a b c : V} : rd none [a, b, c] 1 = some b := Eq.trans rfl rfl
theorem rd3_2 {a b c : V} : rd none [a, b, c] 2 = some c := Eq.trans rfl rfl
theorem rd3_w {a b c : V} : rd (some 3) [a, b, c] 0 = some (.agg [a, b, c]) := Eq.trans rfl rfl
theorem splice33 {a b c x y z : V} : splice [a, b, c] 0 [x, y, z] = [x, y, z] := by simp [splice]
theorem splice44 {a b c d x y z w : V} : splice [a, b, c, d] 0 [x, y, z, w] = [x, y, z, w] := by simp [splice]
theorem splice30 {a b c x : V} : splice [a, b, c] 0 [x] = [x, b, c] := by simp [splice]
theorem splice31 {a b c x : V} : splice [a, b, c] 1 [x] = [a, x, c] := by simp [splice]
theorem splice32 {a b c x : V} : splice [a, b, c] 2 [x] = [a, b, x] := by simp [splice]
theorem splice40 {a b c d x : V} : splice [a, b, c, d] 0 [x] = [x, b, c, d] := by simp [splice]
theorem splice41 {a b c d x : V} : splice [a, b, c, d] 1 [x] = [a, x, c, d] := by simp [splice]
theorem splice42 {a b c d x : V} : splice [a, b, c, d] 2 [x] = [a, b, x, d] := by simp [splice]
theorem splice43 {a b c d x : V} : splice [a, b, c, d] 3 [x] = [a, b, c, x] := by simp [splice]
attribute [simp] splice30 splice31 splice32 splice40 splice41 splice42 splice43 rd4_0 rd4_1 rd4_2 rd4_3 rd4_w rd4_z rd3_0 rd3_1 rd3_2 rd3_w splice33 splice44
theorem veqA_3 {a b c x y z : Int} {neg : Bool} : veqA neg [.int .i64, .int .i64, .int .i64] (.agg [.int .i64 a, .int .i64 b, .int .i64 c]) (.agg [.int .i64 x, .int .i64 y, .int .i64 z]) = some (.bool (if neg then !(decide (a = x) && (decide (b = y) && decide (c = z))) else decide (a = x) && (decide (b = y) && decide (c = z)))) := by
  simp [veqA, eqCells, eqCell]
  cases neg <;> rfl
theorem lastO {α : Type} {X : List α} {c : α} : (X ++ [c])[X.length]? = some c := by simp
theorem lastS {α : Type} {X : List α} {c d : α} : (X ++ [c]).set X.length d = X ++ [d] := by simp

/-- all of the first n -/
def allN (f : Nat → Bool) : Nat → Bool
  | 0 => true
  | n + 1 => allN f n && f n
theorem allN_at {f : Nat → Bool} : ∀ {n : Nat}, allN f n = true → ∀ {i : Nat}, i < n → f i = true
  | 0, _, i, hi => by omega
  | n + 1, h, i, hi => by
    simp only [allN, Bool.and_eq_true] at h
    by_cases e : i = n
    · subst e; exact h.2
    · exact allN_at h.1 (by omega)
theorem allN_not {f : Nat → Bool} {n i : Nat} (hi : i < n) (hf : f i = false) : allN f n = false := by
  cases h : allN f n with
  | false => rfl
  | true => rw [allN_at h hi] at hf; cases hf
theorem allN_congr {f g : Nat → Bool} : ∀ {n : Nat}, (∀ i, i < n → f i = g i) → allN f n = allN g n
  | 0, _ => rfl
  | n + 1, h => by simp only [allN]; rw [allN_congr fun i hi => h i (by omega), h n (by omega)]

def isEB (W Q x y u : Int) : Bool := decide ((u = 0 ∧ 0 ≤ x ∧ x < W - 1 ∧ 0 ≤ y ∧ y < Q) ∨ (u = 1 ∧ 0 ≤ x ∧ x < W ∧ 0 ≤ y ∧ y < Q - 1))
def bef (a b : Ed) : Prop := a.x < b.x ∨ (a.x = b.x ∧ (a.y < b.y ∨ (a.y = b.y ∧ a.u < b.u)))
instance {a b : Ed} : Decidable (bef a b) := by unfold bef; infer_instance
def upL (w q x y : Nat) : Nat → List Ed
  | 0 => []
  | u + 1 => upL w q x y u ++ (if isEB w q x y u = true then [⟨x, y, u⟩] else [])
def rowL (w q x : Nat) : Nat → List Ed
  | 0 => []
  | y + 1 => rowL w q x y ++ upL w q x y 2
def edL (w q : Nat) : Nat → List Ed
  | 0 => []
  | x + 1 => edL w q x ++ rowL w q x q
theorem upL_len {w q x y : Nat} : ∀ u, (upL w q x y u).length ≤ u
  | 0 => by simp [upL]
  | u + 1 => by
    have := upL_len (w := w) (q := q) (x := x) (y := y) u
    simp only [upL, List.length_append]; split <;> simp <;> omega
theorem rowL_len {w q x : Nat} : ∀ y, (rowL w q x y).length ≤ 2 * y
  | 0 => by simp [rowL]
  | y + 1 => by
    have := rowL_len (w := w) (q := q) (x := x) y
    have := upL_len (w := w) (q := q) (x := x) (y := y) 2
    simp only [rowL, List.length_append]; omega
theorem edL_len {w q : Nat} (hq : q ≤ 12) : ∀ x, (edL w q x).length ≤ 24 * x
  | 0 => by simp [edL]
  | x + 1 => by
    have := edL_len (w := w) hq x
    have := rowL_len (w := w) (q := q) (x := x) q
    simp only [edL, List.length_append]; omega
def edOk (w q : Nat) (l : List Ed) : Prop := ∀ e ∈ l, isEB w q e.x e.y e.u = true
theorem edOk.app {w q : Nat} {l m : List Ed} (h : edOk w q l) (h2 : edOk w q m) : edOk w q (l ++ m) := by
  intro e he
  rcases List.mem_append.1 he with he | he
  · exact h e he
  · exact h2 e he
theorem upL_ok {w q x y : Nat} : ∀ u, edOk w q (upL w q x y u)
  | 0 => by intro e he; simp [upL] at he
  | u + 1 => by
    refine (upL_ok u).app ?_
    intro e he
    split at he
    · rename_i h; simp at he; subst he; exact h
    · simp at he
theorem rowL_ok {w q x : Nat} : ∀ y, edOk w q (rowL w q x y)
  | 0 => by intro e he; simp [rowL] at he
  | y + 1 => (rowL_ok y).app (upL_ok 2)
theorem edL_ok {w q : Nat} : ∀ x, edOk w q (edL w q x)
  | 0 => by intro e he; simp [edL] at he
  | x + 1 => (edL_ok x).app (rowL_ok q)

section
variable {lim : Nat} {H : Hp} {K : V → Hp → Prop} {v d p : V} {l : List Ed} {W Q x y u : Int}
theorem EdV.len (h : EdV H v l) : vlenS v = some (.int .i64 l.length) := h.lst.len
theorem EdV.stor (h : EdV H v l) : stor v = true := h.lst.stor
theorem EdV.one (h : EdV H v l) : cellsV v = [v] := h.lst.one
theorem EdV.mono {H' : Hp} (hx : HX H H') (h : EdV H v l) : EdV H' v l := ⟨h.lst.mono hx, h.all⟩
theorem EdV.addr (h : EdV H v l) {i : Int} (hi : 0 ≤ i ∧ i < l.length) : viaddrS 3 v (.int .i64 i) = some (ept 3 v i.toNat) := h.lst.addr hi
theorem EdV.load (h : EdV H v l) {i : Nat} (hi : i < l.length) {L : Lo} : vload (some 3) L H (ept 3 v i) = some (.agg [.int .i64 (l.getD i default).x, .int .i64 (l.getD i default).y, .int .i64 (l.getD i default).u]) := h.lst.load hi
theorem EdV.in64 (h : EdV H v l) {i : Nat} (hi : i < l.length) : (l.getD i default).in64 := h.all _ (by simp [List.getD_eq_getElem?_getD, hi])

theorem flow_isPlace (hd : Vm.stor d = true) (hp : Vm.stor p = true) (hK : K (.bool (decide (0 ≤ x ∧ x < W ∧ 0 ≤ y ∧ y < Q))) H) : VCall tbl lim 69 [.agg [.int .i64 W, .int .i64 Q, d, p], .int .i64 x, .int .i64 y] H K := by
  refine VCall_fn tbl_at69 rfl ?_
  simp [vf69, hd, hp]
  simpa [Bool.and_assoc] using hK
theorem flow_isSquare (hd : Vm.stor d = true) (hp : Vm.stor p = true) (hW : 1 ≤ W ∧ W ≤ 12) (hQ : 1 ≤ Q ∧ Q ≤ 12) (hK : K (.bool (decide (0 ≤ x ∧ x < W - 1 ∧ 0 ≤ y ∧ y < Q - 1))) H) : VCall tbl lim 49 [.agg [.int .i64 W, .int .i64 Q, d, p], .int .i64 x, .int .i64 y] H K := by
  refine VCall_fn tbl_at49 rfl ?_
  simp (disch := omega) [vf49, hd, hp, wrap_i64]
  simpa [Bool.and_assoc] using hK
theorem ref_within {n a b : Int} (hK : K (.bool (decide (a ≤ n ∧ n ≤ b))) H) : VCall tbl lim 56 [.int .i64 n, .int .i64 a, .int .i64 b] H K := by
  refine VCall_fn tbl_at56 rfl ?_
  simp [vf56]
  simpa [Bool.and_assoc] using hK
theorem flow_isEdge (hd : Vm.stor d = true) (hp : Vm.stor p = true) (hW : 1 ≤ W ∧ W ≤ 12) (hQ : 1 ≤ Q ∧ Q ≤ 12) (hK : K (.bool (isEB W Q x y u)) H) : VCall tbl lim 51 [.agg [.int .i64 W, .int .i64 Q, d, p], .agg [.int .i64 x, .int .i64 y, .int .i64 u]] H K := by
  refine VCall_fn tbl_at51 rfl ?_
  simp (disch := omega) [vf51, hd, hp, wrap_i64]
  refine cond_dec (fun h => ?_) fun h => ?_
  · subst h
    simp [hd, hp]
    refine flow_isPlace hd hp ?_
    simp (disch := omega) [wrap_i64]
    have e : isEB W Q x y 0 = (decide (0 ≤ x ∧ x < W ∧ 0 ≤ y ∧ y < Q) && decide (x < W - 1)) := by
      rw [Bool.eq_iff_iff]; simp [isEB]; omega
    rw [e] at hK
    simpa using hK
  · simp
    refine cond_dec (fun h => ?_) fun h1 => ?_
    · subst h
      simp [hd, hp]
      refine flow_isPlace hd hp ?_
      simp (disch := omega) [wrap_i64]
      have e : isEB W Q x y 1 = (decide (0 ≤ x ∧ x < W ∧ 0 ≤ y ∧ y < Q) && decide (y < Q - 1)) := by
        rw [Bool.eq_iff_iff]; simp [isEB]; omega
      rw [e] at hK
      simpa using hK
    · have e : isEB W Q x y u = false := by simp [isEB, h, h1]
      rw [e] at hK
      simpa using hK
theorem ref_isEdge (hd : Vm.stor d = true) (hp : Vm.stor p = true) (hW : 1 ≤ W ∧ W ≤ 12) (hQ : 1 ≤ Q ∧ Q ≤ 12) (hK : K (.bool (isEB W Q x y u)) H) : VCall tbl lim 57 [.agg [.int .i64 W, .int .i64 Q, d, p], .agg [.int .i64 x, .int .i64 y, .int .i64 u]] H K := by
  refine VCall_fn tbl_at57 rfl ?_
  by_cases h0 : u = 0
  · subst h0
    have e : isEB W Q x y 0 = (decide (0 ≤ x ∧ x ≤ W - 2) && decide (0 ≤ y ∧ y ≤ Q - 1)) := by
      rw [Bool.eq_iff_iff]; simp [isEB]; omega
    rw [e] at hK
    by_cases h1 : 0 ≤ x ∧ x ≤ W - 2
    · simp (disch := omega) [vf57, hd, hp, wrap_i64]
      refine ref_within ?_
      simp (disch := omega) [h1, wrap_i64]
      refine ref_within ?_
      simp [h1] at hK
      simpa using hK
    · simp (disch := omega) [vf57, hd, hp, wrap_i64]
      refine ref_within ?_
      simp (disch := omega) [h1, wrap_i64]
      simpa [h1] using hK
  by_cases h2 : u = 1
  · subst h2
    have e : isEB W Q x y 1 = (decide (0 ≤ x ∧ x ≤ W - 1) && decide (0 ≤ y ∧ y ≤ Q - 2)) := by
      rw [Bool.eq_iff_iff]; simp [isEB]; omega
    rw [e] at hK
    by_cases h1 : 0 ≤ x ∧ x ≤ W - 1
    · simp (disch := omega) [vf57, hd, hp, wrap_i64]
      refine ref_within ?_
      simp (disch := omega) [h1, wrap_i64]
      refine ref_within ?_
      simp [h1] at hK
      simpa using hK
    · simp (disch := omega) [vf57, hd, hp, wrap_i64]
      refine ref_within ?_
      simp (disch := omega) [h1, wrap_i64]
      simpa [h1] using hK
  have e : isEB W Q x y u = false := by simp [isEB, h0, h2]
  rw [e] at hK
  simp (disch := omega) [vf57, hd, hp, wrap_i64, h0, h2]
  exact hK
theorem ref_before {a b : Ed} (hK : K (.bool (decide (bef a b))) H) : VCall tbl lim 58 [.agg [.int .i64 a.x, .int .i64 a.y, .int .i64 a.u], .agg [.int .i64 b.x, .int .i64 b.y, .int .i64 b.u]] H K := by
  refine VCall_fn tbl_at58 rfl ?_
  simp [vf58]
  refine cond_ndec (fun h => ?_) fun h => ?_
  · have e : decide (bef a b) = decide (a.x < b.x) := by simp [bef, h]
    rw [e] at hK
    simpa using hK
  simp
  refine cond_ndec (fun h1 => ?_) fun h1 => ?_
  · have e : decide (bef a b) = decide (a.y < b.y) := by simp [bef, h, h1]
    rw [e] at hK
    simpa using hK
  · have e : decide (bef a b) = decide (a.u < b.u) := by simp [bef, h, h1]
    rw [e] at hK
    simpa using hK
end
end Go.Proofs.YtgjlhdggllakbaaDoor.Vm
namespace Go.Proofs.YtgjlhdggllakbaaDoor.Vm
open Go
set_option maxRecDepth 100000
set_option linter.unusedSimpArgs false
set_option linter.unusedVariables false
attribute [-simp] List.getD_eq_getElem?_getD

def cmpI (a b : Int) : Int := if a < b then -1 else if b < a then 1 else 0
def or3 (a b c : Int) : Int := if a ≠ 0 then a else if b ≠ 0 then b else c
def cmpE (a b : Ed) : Int := or3 (cmpI a.x b.x) (cmpI a.y b.y) (cmpI a.u b.u)
theorem cmpI_in {a b : Int} : -1 ≤ cmpI a b ∧ cmpI a b ≤ 1 := by unfold cmpI; split <;> (try split) <;> omega
theorem cmpE_lt {a b : Ed} : 0 ≤ cmpE a b ↔ ¬ bef a b := by
  unfold cmpE or3 cmpI bef
  by_cases h1 : a.x < b.x
  · simp [h1]
  by_cases h2 : b.x < a.x
  · simp [h1, h2] <;> omega
  by_cases h3 : a.y < b.y
  · simp [h1, h2, h3] <;> omega
  by_cases h4 : b.y < a.y
  · simp [h1, h2, h3, h4] <;> omega
  by_cases h5 : a.u < b.u
  · simp [h1, h2, h3, h4, h5] <;> omega
  by_cases h6 : b.u < a.u
  · simp [h1, h2, h3, h4, h5, h6] <;> omega
  · simp [h1, h2, h3, h4, h5, h6]

section
variable {lim : Nat} {H : Hp} {K : V → Hp → Prop} {v d p : V} {l : List Ed} {W Q x y u : Int}
theorem cmp_isNaN {a : Int} (hK : K (.bool false) H) : VCall tbl lim 84 [.int .i64 a] H K := by
  refine VCall_fn tbl_at84 rfl ?_
  simp [vf84]
  exact hK
theorem cmp_Compare {a b : Int} (hK : K (.int .i64 (cmpI a b)) H) : VCall tbl lim 71 [.int .i64 a, .int .i64 b] H K := by
  refine VCall_fn tbl_at71 rfl ?_
  simp [vf71]
  refine cmp_isNaN ?_
  simp
  refine cmp_isNaN ?_
  simp
  refine cond_dec (fun h => ?_) fun h => ?_
  · simp; simpa [cmpI, h] using hK
  simp
  refine cond_dec (fun h1 => ?_) fun h1 => ?_
  · simp; simpa [cmpI, h, h1] using hK
  · simp; simpa [cmpI, h, h1] using hK
theorem cmp_Or {a b c : Int} (hv : SlV H v [a, b, c]) (hK : K (.int .i64 (or3 a b c)) H) : VCall tbl lim 70 [v] H K := by
  refine VCall_fn tbl_at70 rfl ?_
  simp [vf70, hv.stor, hv.len]
  refine wLoop_up 3 (fun i fr L H' => (fr 3 = .int .i64 0 ∧ fr 6 = v ∧ fr 7 = .int .i64 3 ∧ fr 8 = .int .i64 i) ∧ L = [] ∧ H' = H ∧ ∀ j, j < i → [a, b, c].getD j 0 = 0) ⟨by simp, rfl, rfl, fun j hj => by omega⟩ ?_
  rintro i hi fr L H' ⟨⟨f3, f6, f7, f8⟩, rfl, rfl, hz⟩
  simp [f3, f6, f7, f8]
  refine cond_dec (fun ht => ?_) fun hf => ?_
  · have ht : i < 3 := by omega
    simp (disch := first | omega | (simp; omega)) [f3, f6, f7, f8, hv.addr, hv.load, wrap_i64]
    refine cond_ndec (fun h => ?_) fun h => ?_
    · have e : [a, b, c].getD i 0 = or3 a b c := by
        have z0 : 0 < i → a = 0 := fun h => hz 0 h
        have z1 : 1 < i → b = 0 := fun h => hz 1 h
        rcases (show i = 0 ∨ i = 1 ∨ i = 2 by omega) with rfl | rfl | rfl
        · have h : a ≠ 0 := h
          simp only [or3, ne_eq, h, not_false_eq_true, if_true]; rfl
        · have h : b ≠ 0 := h
          simp only [or3, ne_eq, h, z0 (by omega), not_true_eq_false, not_false_eq_true, if_true, if_false]; rfl
        · simp only [or3, ne_eq, z0 (by omega), z1 (by omega), not_true_eq_false, if_false]; rfl
      simp [f3, f6, f7, f8]
      rw [e]; exact hK
    · simp (disch := omega) [f3, f6, f7, f8, wrap_i64]
      refine ⟨by omega, fun j hj => ?_⟩
      by_cases e : j = i
      · subst e; exact h
      · exact hz j (by omega)
  · have : i = 3 := by omega
    subst this
    have z0 : a = 0 := hz 0 (by omega)
    have z1 : b = 0 := hz 1 (by omega)
    have z2 : c = 0 := hz 2 (by omega)
    subst z0 z1 z2
    simp [f3]
    simpa [or3] using hK
theorem flow_compareEdges {a b : Ed} (hlim : lim ≤ H.length) (hK : ∀ H', HX H H' → K (.int .i64 (cmpE a b)) H') : VCall tbl lim 52 [.agg [.int .i64 a.x, .int .i64 a.y, .int .i64 a.u], .agg [.int .i64 b.x, .int .i64 b.y, .int .i64 b.u]] H K := by
  refine VCall_fn tbl_at52 rfl ?_
  simp [vf52]
  refine cmp_Compare ?_
  simp
  refine cmp_Compare ?_
  simp
  refine cmp_Compare ?_
  simp [splice]
  refine cmp_Or (a := cmpI a.x b.x) (b := cmpI a.y b.y) (c := cmpI a.u b.u) (.lit (l := [cmpI a.x b.x, cmpI a.y b.y, cmpI a.u b.u]) (own := true) List.getElem?_concat_length rfl) ?_
  simp
  exact hK _ HX.push

theorem flow_edges {w q : Nat} (hd : Vm.stor d = true) (hp : Vm.stor p = true) (hW : 1 ≤ w ∧ w ≤ 12) (hQ : 1 ≤ q ∧ q ≤ 12) (hlim : lim ≤ H.length) (hK : ∀ H' v, HX H H' → OwnT H.length edC H' v (edL w q w) → K v H') : VCall tbl lim 53 [.agg [.int .i64 w, .int .i64 q, d, p]] H K := by
  refine VCall_fn tbl_at53 rfl ?_
  simp [vf53, hd, hp]
  refine wLoop_up w (fun i fr L H' => ∃ v X, (fr 1 = .lp 0 0 ∧ fr 3 = v ∧ fr 9 = .int .i64 w ∧ fr 10 = .int .i64 i) ∧ L = [.int .i64 w, .int .i64 q, d, p] :: X ∧ HX H H' ∧ OwnT H.length edC H' v (edL w q i)) ⟨.snil, [], by simp, rfl, .refl, .nil⟩ ?_
  rintro i hi fr L H' ⟨v, X, ⟨f1, f3, f9, f10⟩, rfl, hx, hv⟩
  simp [f1, f3, f9, f10]
  refine cond_dec (fun ht => ?_) fun hf => ?_
  · have ht : i < w := by omega
    simp [f1, f3, f9, f10]
    refine wLoop_up q (fun j fr L H' => ∃ v X, (fr 1 = .lp 0 0 ∧ fr 3 = v ∧ fr 4 = .int .i64 i ∧ fr 9 = .int .i64 w ∧ fr 10 = .int .i64 i ∧ fr 14 = .int .i64 q ∧ fr 15 = .int .i64 j) ∧ L = [.int .i64 w, .int .i64 q, d, p] :: X ∧ HX H H' ∧ OwnT H.length edC H' v (edL w q i ++ rowL w q i j)) ⟨v, X, by simp [f1, f3, f9, f10], rfl, hx, by simpa [rowL] using hv⟩ ?_
    clear f1 f3 f9 f10 hx hv
    rintro j hj fr L H' ⟨v, X, ⟨f1, f3, f4, f9, f10, f14, f15⟩, rfl, hx, hv⟩
    simp [f1, f3, f4, f9, f10, f14, f15]
    refine cond_dec (fun ht2 => ?_) fun hf2 => ?_
    · have ht2 : j < q := by omega
      simp [f1, f3, f4, f9, f10, f14, f15]
      refine wLoop_up 2 (fun k fr L H' => ∃ v X, (fr 1 = .lp 0 0 ∧ fr 3 = v ∧ fr 4 = .int .i64 i ∧ fr 5 = .int .i64 j ∧ fr 9 = .int .i64 w ∧ fr 10 = .int .i64 i ∧ fr 14 = .int .i64 q ∧ fr 15 = .int .i64 j ∧ fr 18 = .int .i64 k) ∧ L = [.int .i64 w, .int .i64 q, d, p] :: X ∧ HX H H' ∧ OwnT H.length edC H' v (edL w q i ++ rowL w q i j ++ upL w q i j k)) ⟨v, X, by simp [f1, f3, f4, f9, f10, f14, f15], rfl, hx, by simpa [upL] using hv⟩ ?_
      clear f1 f3 f4 f9 f10 f14 f15 hx hv
      rintro k hk fr L H' ⟨v, X, ⟨f1, f3, f4, f5, f9, f10, f14, f15, f18⟩, rfl, hx, hv⟩
      simp [f1, f3, f4, f5, f9, f10, f14, f15, f18]
      refine cond_dec (fun ht3 => ?_) fun hf3 => ?_
      · have ht3 : k < 2 := by omega
        simp [f1, f3, f4, f5, f9, f10, f14, f15, f18, lastO, lastS, hd, hp]
        refine flow_isEdge (W := (w : Int)) (Q := (q : Int)) hd hp (by omega) (by omega) ?_
        have hxl := hx.len
        have hll : (edL w q i ++ rowL w q i j ++ upL w q i j k).length ≤ 1000 := by
          have := edL_len (w := w) (q := q) (by omega) i
          have := rowL_len (w := w) (q := q) (x := i) j
          have := upL_len (w := w) (q := q) (x := i) (y := j) k
          simp only [List.length_append]; omega
        simp
        refine cond_bool (fun h => ?_) fun h => ?_
        · obtain ⟨v', H2, a1, a2, a3, a4, a5, a6⟩ := hv.append (lim := lim) (bytes := 24) (x := ⟨i, j, k⟩) (cs := [.int .i64 i, .int .i64 j, .int .i64 k]) rfl ⟨hlim, hx.len⟩ (by omega) (by omega)
          have e : edL w q i ++ rowL w q i j ++ upL w q i j (k + 1) = edL w q i ++ rowL w q i j ++ upL w q i j k ++ [⟨i, j, k⟩] := by
            simp only [upL, h, if_true, List.append_assoc]
          simp (disch := omega) [f1, f3, f4, f5, f9, f10, f14, f15, f18, lastO, lastS, a1, wrap_i64]
          refine ⟨by omega, a3 _ hx (Nat.le_refl _), ?_⟩
          rw [← List.append_assoc, e]; exact a2
        · have e : edL w q i ++ rowL w q i j ++ upL w q i j (k + 1) = edL w q i ++ rowL w q i j ++ upL w q i j k := by
            simp [upL, h]
          simp (disch := omega) [f1, f3, f4, f5, f9, f10, f14, f15, f18, wrap_i64]
          refine ⟨by omega, hx, ?_⟩
          rw [← List.append_assoc, e]; exact hv
      · have : k = 2 := by omega
        subst this
        simp (disch := omega) [f1, f3, f4, f5, f9, f10, f14, f15, f18, wrap_i64]
        refine ⟨by omega, hx, ?_⟩
        simpa [rowL] using hv
    · have : j = q := by omega
      subst this
      simp (disch := omega) [f1, f3, f4, f9, f10, f14, f15, wrap_i64]
      refine ⟨by omega, hx, ?_⟩
      simpa [edL] using hv
  · have : i = w := by omega
    subst this
    simp [f1, f3, f9, f10, hv.lst.stor]
    exact hK _ _ hx hv

theorem ref_edges {w q : Nat} (hd : Vm.stor d = true) (hp : Vm.stor p = true) (hW : 1 ≤ w ∧ w ≤ 12) (hQ : 1 ≤ q ∧ q ≤ 12) (hlim : lim ≤ H.length) (hK : ∀ H' v, HX H H' → OwnT H.length edC H' v (edL w q w) → K v H') : VCall tbl lim 59 [.agg [.int .i64 w, .int .i64 q, d, p]] H K := by
  refine VCall_fn tbl_at59 rfl ?_
  simp [vf59, hd, hp]
  refine wLoop_up w (fun i fr L H' => ∃ v X, (fr 1 = .lp 0 0 ∧ fr 3 = v ∧ fr 4 = .int .i64 i) ∧ L = [.int .i64 w, .int .i64 q, d, p] :: X ∧ HX H H' ∧ OwnT H.length edC H' v (edL w q i)) ⟨.snil, [], by simp, rfl, .refl, .nil⟩ ?_
  rintro i hi fr L H' ⟨v, X, ⟨f1, f3, f4⟩, rfl, hx, hv⟩
  simp [f1, f3, f4]
  refine cond_dec (fun ht => ?_) fun hf => ?_
  · have ht : i < w := by omega
    simp [f1, f3, f4]
    refine wLoop_up q (fun j fr L H' => ∃ v X, (fr 1 = .lp 0 0 ∧ fr 3 = v ∧ fr 4 = .int .i64 i ∧ fr 5 = .int .i64 j) ∧ L = [.int .i64 w, .int .i64 q, d, p] :: X ∧ HX H H' ∧ OwnT H.length edC H' v (edL w q i ++ rowL w q i j)) ⟨v, X, by simp [f1, f3, f4], rfl, hx, by simpa [rowL] using hv⟩ ?_
    clear f1 f3 f4 hx hv
    rintro j hj fr L H' ⟨v, X, ⟨f1, f3, f4, f5⟩, rfl, hx, hv⟩
    simp [f1, f3, f4, f5]
    refine cond_dec (fun ht2 => ?_) fun hf2 => ?_
    · have ht2 : j < q := by omega
      simp [f1, f3, f4, f5]
      refine wLoop_up 2 (fun k fr L H' => ∃ v X, (fr 1 = .lp 0 0 ∧ fr 3 = v ∧ fr 4 = .int .i64 i ∧ fr 5 = .int .i64 j ∧ fr 6 = .int .i64 k) ∧ L = [.int .i64 w, .int .i64 q, d, p] :: X ∧ HX H H' ∧ OwnT H.length edC H' v (edL w q i ++ rowL w q i j ++ upL w q i j k)) ⟨v, X, by simp [f1, f3, f4, f5], rfl, hx, by simpa [upL] using hv⟩ ?_
      clear f1 f3 f4 f5 hx hv
      rintro k hk fr L H' ⟨v, X, ⟨f1, f3, f4, f5, f6⟩, rfl, hx, hv⟩
      simp [f1, f3, f4, f5, f6]
      refine cond_dec (fun ht3 => ?_) fun hf3 => ?_
      · have ht3 : k < 2 := by omega
        simp [f1, f3, f4, f5, f6, lastO, lastS, hd, hp]
        refine ref_isEdge (W := (w : Int)) (Q := (q : Int)) hd hp (by omega) (by omega) ?_
        have hxl := hx.len
        have hll : (edL w q i ++ rowL w q i j ++ upL w q i j k).length ≤ 1000 := by
          have := edL_len (w := w) (q := q) (by omega) i
          have := rowL_len (w := w) (q := q) (x := i) j
          have := upL_len (w := w) (q := q) (x := i) (y := j) k
          simp only [List.length_append]; omega
        simp
        refine cond_bool (fun h => ?_) fun h => ?_
        · obtain ⟨v', H2, a1, a2, a3, a4, a5, a6⟩ := hv.append (lim := lim) (bytes := 24) (x := ⟨i, j, k⟩) (cs := [.int .i64 i, .int .i64 j, .int .i64 k]) rfl ⟨hlim, hx.len⟩ (by omega) (by omega)
          have e : edL w q i ++ rowL w q i j ++ upL w q i j (k + 1) = edL w q i ++ rowL w q i j ++ upL w q i j k ++ [⟨i, j, k⟩] := by
            simp only [upL, h, if_true, List.append_assoc]
          simp (disch := omega) [f1, f3, f4, f5, f6, lastO, lastS, a1, wrap_i64]
          refine ⟨by omega, a3 _ hx (Nat.le_refl _), ?_⟩
          rw [← List.append_assoc, e]; exact a2
        · have e : edL w q i ++ rowL w q i j ++ upL w q i j (k + 1) = edL w q i ++ rowL w q i j ++ upL w q i j k := by
            simp [upL, h]
          simp (disch := omega) [f1, f3, f4, f5, f6, wrap_i64]
          refine ⟨by omega, hx, ?_⟩
          rw [← List.append_assoc, e]; exact hv
      · have : k = 2 := by omega
        subst this
        simp (disch := omega) [f1, f3, f4, f5, f6, wrap_i64]
        refine ⟨by omega, hx, ?_⟩
        simpa [rowL] using hv
    · have : j = q := by omega
      subst this
      simp (disch := omega) [f1, f3, f4, f5, wrap_i64]
      refine ⟨by omega, hx, ?_⟩
      simpa [edL] using hv
  · have : i = w := by omega
    subst this
    simp [f1, f3, f4, hv.lst.stor]
    exact hK _ _ hx hv
end
end Go.Proofs.YtgjlhdggllakbaaDoor.Vm
namespace Go.Proofs.YtgjlhdggllakbaaDoor.Vm
open Go
set_option maxRecDepth 100000
set_option linter.unusedSimpArgs false
set_option linter.unusedVariables false
attribute [-simp] List.getD_eq_getElem?_getD

def nrm (n : Int) : Int := (n + 3) % 8 - 3
def cntE (P : List Ed) (x y u : Int) : Nat → Int
  | 0 => 0
  | i + 1 => cntE P x y u i + if (P.getD i default).x = x ∧ (P.getD i default).y = y ∧ (P.getD i default).u = u then 1 else 0
def dlt (w : Nat) (D : List Int) (x y u : Int) : Int := D.getD (if u = 1 then y * w + x + w else y * w + x + 1).toNat 0 - D.getD (y * w + x).toNat 0
def tnP (w : Nat) (D : List Int) (P : List Ed) (x y u : Int) : Int := nrm (dlt w D x y u + 4 * cntE P x y u P.length)
theorem cntE_bd {P : List Ed} {x y u : Int} : ∀ i, 0 ≤ cntE P x y u i ∧ cntE P x y u i ≤ i
  | 0 => by simp [cntE]
  | i + 1 => by
    have := cntE_bd (P := P) (x := x) (y := y) (u := u) i
    simp only [cntE]; split <;> omega
theorem cntE_mono {P : List Ed} {x y u : Int} {i : Nat} : ∀ {j}, i ≤ j → cntE P x y u i ≤ cntE P x y u j
  | 0, h => by have : i = 0 := by omega
               subst this; exact Int.le_refl _
  | j + 1, h => by
    by_cases e : i = j + 1
    · subst e; exact Int.le_refl _
    · have := cntE_mono (P := P) (x := x) (y := y) (u := u) (i := i) (j := j) (by omega)
      simp only [cntE]; split <;> omega
def dOk (D : List Int) (i : Nat) : Bool := decide (0 ≤ D.getD i 0 ∧ D.getD i 0 ≤ 7)
def pOk (W Q : Int) (P : List Ed) (i : Nat) : Bool := isEB W Q (P.getD i default).x (P.getD i default).y (P.getD i default).u && (decide (i = 0) || decide (bef (P.getD (i - 1) default) (P.getD i default)))
def shOk (w : Nat) (D : List Int) (P : List Ed) (l : List Ed) (i : Nat) : Bool := !decide (tnP w D P (l.getD i default).x (l.getD i default).y (l.getD i default).u = 4)
def validP (W Q : Int) (D : List Int) (P : List Ed) : Int :=
  if W < 1 ∨ 12 < W ∨ Q < 1 ∨ 12 < Q ∨ (D.length : Int) ≠ W * Q then 1
  else if allN (dOk D) D.length = false then 1
  else if 60 < P.length then 4
  else if allN (pOk W Q P) P.length = false then 1
  else if allN (shOk W.toNat D P (edL W.toNat Q.toNat W.toNat)) (edL W.toNat Q.toNat W.toNat).length = false then 9 else 0

/-- a field whose lists are in order -/
structure PreF (w q : Nat) (D : List Int) (P : List Ed) : Prop where
  w1 : 1 ≤ w ∧ w ≤ 12
  q1 : 1 ≤ q ∧ q ≤ 12
  dl : (D.length : Int) = (w : Int) * q
  dd : ∀ i, 0 ≤ D.getD i 0 ∧ D.getD i 0 ≤ 7
  pl : P.length ≤ 60
  po : ∀ i, i < P.length → pOk w q P i = true

theorem bef_trans {a b c : Ed} (h : bef a b) (h2 : bef b c) : bef a c := by unfold bef at *; omega
theorem PreF.sorted {w q : Nat} {D : List Int} {P : List Ed} (h : PreF w q D P) : ∀ {j i}, i < j → j < P.length → bef (P.getD i default) (P.getD j default)
  | 0, i, hi, _ => by omega
  | j + 1, i, hi, hj => by
    have h1 : bef (P.getD j default) (P.getD (j + 1) default) := by
      have := h.po (j + 1) hj
      simp only [pOk, Bool.and_eq_true, Bool.or_eq_true, decide_eq_true_eq, Nat.add_sub_cancel] at this
      exact this.2.resolve_left (by omega)
    by_cases e : i = j
    · subst e; exact h1
    · exact bef_trans (h.sorted (j := j) (by omega) (by omega)) h1
theorem PreF.one {w q : Nat} {D : List Int} {P : List Ed} (h : PreF w q D P) {x y u : Int} : cntE P x y u P.length ≤ 1 := by
  have key : ∀ i, i ≤ P.length → cntE P x y u i ≤ 1 ∧ (0 < cntE P x y u i → ∃ j, j < i ∧ (P.getD j default).x = x ∧ (P.getD j default).y = y ∧ (P.getD j default).u = u) := by
    intro i
    induction i with
    | zero => intro _; simp [cntE]
    | succ i ih =>
      intro hi
      obtain ⟨a, b⟩ := ih (by omega)
      simp only [cntE]
      split
      · rename_i e
        have : ¬ 0 < cntE P x y u i := by
          intro hp
          obtain ⟨j, hj, f⟩ := b hp
          have := h.sorted hj (by omega)
          unfold bef at this
          omega
        exact ⟨by omega, fun _ => ⟨i, by omega, e⟩⟩
      · refine ⟨by omega, fun hp => ?_⟩
        obtain ⟨j, hj, f⟩ := b (by omega)
        exact ⟨j, by omega, f⟩
  exact (key _ (Nat.le_refl _)).1
theorem tm8 {n : Int} (h : -8 < n) : ((n.tmod 8) + 8).tmod 8 = n % 8 := by
  by_cases h0 : 0 ≤ n
  · rw [Int.tmod_eq_emod_of_nonneg h0, Int.tmod_eq_emod_of_nonneg (by omega)]; omega
  · rcases (show n = -1 ∨ n = -2 ∨ n = -3 ∨ n = -4 ∨ n = -5 ∨ n = -6 ∨ n = -7 by omega) with rfl | rfl | rfl | rfl | rfl | rfl | rfl <;> rfl
theorem isEB_u {W Q x y u : Int} (h : isEB W Q x y u = true) : u = 0 ∨ u = 1 := by
  simp only [isEB, decide_eq_true_eq] at h; omega
/-- the places of an edge -/
theorem PreF.idx {w q : Nat} {D : List Int} {P : List Ed} (h : PreF w q D P) {x y u : Int} (he : isEB w q x y u = true) :
    0 ≤ y * w ∧ y * (w : Int) ≤ 144 ∧ 0 ≤ x ∧ x ≤ 12 ∧ 0 ≤ y ∧ y ≤ 12 ∧ y * w + x < D.length ∧ (u = 0 → y * w + x + 1 < D.length) ∧ (u = 1 → y * w + x + w < D.length) := by
  have hw := h.w1
  have hq := h.q1
  have hd := h.dl
  simp only [isEB, decide_eq_true_eq] at he
  have m1 := mul_bd (a := y) (b := (w : Int)) (A := 12) (B := 12) (by omega) (by omega)
  have m2 : (y + 1) * (w : Int) ≤ (q : Int) * w := Int.mul_le_mul_of_nonneg_right (by omega) (by omega)
  have m3 : u = 1 → (y + 2) * (w : Int) ≤ (q : Int) * w := fun _ => Int.mul_le_mul_of_nonneg_right (by omega) (by omega)
  rw [Int.add_mul, Int.one_mul] at m2
  rw [Int.mul_comm (w : Int)] at hd
  have e3 : (y + 2) * (w : Int) = y * w + 2 * w := Int.add_mul _ _ _
  rw [e3] at m3
  generalize y * (w : Int) = a at *
  generalize (q : Int) * (w : Int) = b at *
  refine ⟨by omega, by omega, by omega, by omega, by omega, by omega, by omega, fun _ => by omega, fun _ => by omega⟩
theorem PreF.dlt_bd {w q : Nat} {D : List Int} {P : List Ed} (h : PreF w q D P) {x y u : Int} : -7 ≤ dlt w D x y u ∧ dlt w D x y u ≤ 7 := by
  have a := h.dd (if u = 1 then y * w + x + w else y * w + x + 1).toNat
  have b := h.dd (y * w + x).toNat
  simp only [dlt]; omega
theorem tnP_bd {w : Nat} {D : List Int} {P : List Ed} {x y u : Int} : -3 ≤ tnP w D P x y u ∧ tnP w D P x y u ≤ 4 := by
  unfold tnP nrm; omega

section
variable {lim : Nat} {H : Hp} {K : V → Hp → Prop} {v d p : V} {D : List Int} {P : List Ed} {W Q x y u : Int} {w q : Nat}
theorem flow_eighth {n : Int} (h : -8 < n ∧ n < 1000000) (hK : K (.int .i64 (n % 8)) H) : VCall tbl lim 72 [.int .i64 n] H K := by
  refine VCall_fn tbl_at72 rfl ?_
  have b1 : -8 < n.tmod 8 ∧ n.tmod 8 < 8 := by
    by_cases h0 : 0 ≤ n
    · rw [Int.tmod_eq_emod_of_nonneg h0]; omega
    · rcases (show n = -1 ∨ n = -2 ∨ n = -3 ∨ n = -4 ∨ n = -5 ∨ n = -6 ∨ n = -7 by omega) with rfl | rfl | rfl | rfl | rfl | rfl | rfl <;> decide
  have t := tm8 h.1
  have b2 : 0 ≤ n % 8 ∧ n % 8 < 8 := by omega
  simp (disch := omega) [vf72, wrap_i64, t]
  exact hK
theorem flow_turning (hd : SlV H d D) (hp : EdV H p P) (hf : PreF w q D P) (he : isEB w q x y u = true) (hK : K (.int .i64 (tnP w D P x y u)) H) : VCall tbl lim 54 [.agg [.int .i64 w, .int .i64 q, d, p], .agg [.int .i64 x, .int .i64 y, .int .i64 u]] H K := by
  refine VCall_fn tbl_at54 rfl ?_
  have hx := hf.idx he
  have hdd := hf.dlt_bd (x := x) (y := y) (u := u)
  have da := hf.dd (y * w + x).toNat
  have db := hf.dd (y * w + x + 1).toNat
  have dc := hf.dd (y * w + x + w).toNat
  have hpl := hf.pl
  have hw := hf.w1
  have w1 : IntKind.i64.wrap (y * (w : Int)) = y * w := wrap_i64 (by omega) (by omega)
  have hc := cntE_bd (P := P) (x := x) (y := y) (u := u) P.length
  have fin : nrm (dlt w D x y u + 4 * cntE P x y u P.length) = if 4 < (dlt w D x y u + 4 * cntE P x y u P.length) % 8 then (dlt w D x y u + 4 * cntE P x y u P.length) % 8 - 8 else (dlt w D x y u + 4 * cntE P x y u P.length) % 8 := by
    unfold nrm; split <;> omega
  simp only [tnP, fin] at hK
  rcases isEB_u he with rfl | rfl
  · simp (disch := omega) [vf54, hd.stor, hp.stor, hp.len, w1, wrap_i64, hd.addr, hd.load]
    refine wLoop_up P.length (fun i fr L H' => ∃ X, (fr 3 = .lp 1 0 ∧ fr 7 = .int .i64 (dlt w D x y 0 + 4 * cntE P x y 0 i) ∧ fr 39 = p ∧ fr 40 = .int .i64 P.length ∧ fr 41 = .int .i64 i) ∧ L = [.int .i64 w, .int .i64 q, d, p] :: [.int .i64 x, .int .i64 y, .int .i64 0] :: X ∧ H' = H) ⟨[], by simp [dlt, cntE], rfl, rfl⟩ ?_
    rintro i hi fr L H' ⟨X, ⟨f3, f7, f39, f40, f41⟩, rfl, rfl⟩
    simp [f3, f7, f39, f40, f41]
    refine cond_dec (fun ht => ?_) fun hfl => ?_
    · have ht : i < P.length := by omega
      have hci := cntE_bd (P := P) (x := x) (y := y) (u := 0) i
      simp (disch := omega) [f3, f7, f39, f40, f41, hp.addr, hp.load, lastO, lastS, veqA_3]
      refine cond_bool (fun h => ?_) fun h => ?_
      · have h : (P.getD i default).x = x ∧ (P.getD i default).y = y ∧ (P.getD i default).u = 0 := by simpa using h
        have e : cntE P x y 0 (i + 1) = cntE P x y 0 i + 1 := by simp only [cntE]; rw [if_pos h]
        simp (disch := omega) [f3, f7, f39, f40, f41, wrap_i64, e]
        omega
      · have h : ¬ ((P.getD i default).x = x ∧ (P.getD i default).y = y ∧ (P.getD i default).u = 0) := by simpa using h
        have e : cntE P x y 0 (i + 1) = cntE P x y 0 i := by simp only [cntE]; rw [if_neg h]; omega
        simp (disch := omega) [f3, f7, f39, f40, f41, wrap_i64, e]
        omega
    · have : i = P.length := by omega
      subst this
      simp [f3, f7]
      refine flow_eighth (by omega) ?_
      simp
      refine cond_dec (fun h => ?_) fun h => ?_
      · simp (disch := omega) [wrap_i64]
        simpa [h] using hK
      · simp
        simpa [h] using hK
  · simp (disch := omega) [vf54, hd.stor, hp.stor, hp.len, w1, wrap_i64, hd.addr, hd.load]
    refine wLoop_up P.length (fun i fr L H' => ∃ X, (fr 3 = .lp 1 0 ∧ fr 7 = .int .i64 (dlt w D x y 1 + 4 * cntE P x y 1 i) ∧ fr 39 = p ∧ fr 40 = .int .i64 P.length ∧ fr 41 = .int .i64 i) ∧ L = [.int .i64 w, .int .i64 q, d, p] :: [.int .i64 x, .int .i64 y, .int .i64 1] :: X ∧ H' = H) ⟨[], by simp [dlt, cntE], rfl, rfl⟩ ?_
    rintro i hi fr L H' ⟨X, ⟨f3, f7, f39, f40, f41⟩, rfl, rfl⟩
    simp [f3, f7, f39, f40, f41]
    refine cond_dec (fun ht => ?_) fun hfl => ?_
    · have ht : i < P.length := by omega
      have hci := cntE_bd (P := P) (x := x) (y := y) (u := 1) i
      simp (disch := omega) [f3, f7, f39, f40, f41, hp.addr, hp.load, lastO, lastS, veqA_3]
      refine cond_bool (fun h => ?_) fun h => ?_
      · have h : (P.getD i default).x = x ∧ (P.getD i default).y = y ∧ (P.getD i default).u = 1 := by simpa using h
        have e : cntE P x y 1 (i + 1) = cntE P x y 1 i + 1 := by simp only [cntE]; rw [if_pos h]
        simp (disch := omega) [f3, f7, f39, f40, f41, wrap_i64, e]
        omega
      · have h : ¬ ((P.getD i default).x = x ∧ (P.getD i default).y = y ∧ (P.getD i default).u = 1) := by simpa using h
        have e : cntE P x y 1 (i + 1) = cntE P x y 1 i := by simp only [cntE]; rw [if_neg h]; omega
        simp (disch := omega) [f3, f7, f39, f40, f41, wrap_i64, e]
        omega
    · have : i = P.length := by omega
      subst this
      simp [f3, f7]
      refine flow_eighth (by omega) ?_
      simp
      refine cond_dec (fun h => ?_) fun h => ?_
      · simp (disch := omega) [wrap_i64]
        simpa [h] using hK
      · simp
        simpa [h] using hK
end
end Go.Proofs.YtgjlhdggllakbaaDoor.Vm
namespace Go.Proofs.YtgjlhdggllakbaaDoor.Vm
open Go
set_option maxRecDepth 100000
set_option linter.unusedSimpArgs false
set_option linter.unusedVariables false
attribute [-simp] List.getD_eq_getElem?_getD

section
variable {lim : Nat} {H : Hp} {K : V → Hp → Prop} {v d p : V} {D : List Int} {P : List Ed} {W Q x y u : Int} {w q : Nat}
theorem ref_at (hd : SlV H d D) (hp : Vm.stor p = true) (hb : 0 ≤ y * (w : Int) ∧ y * (w : Int) ≤ 1000 ∧ 0 ≤ x ∧ y * (w : Int) + x < D.length ∧ D.length ≤ 1000) (hK : K (.int .i64 (D.getD (y * w + x).toNat 0)) H) : VCall tbl lim 74 [.agg [.int .i64 w, .int .i64 q, d, p], .int .i64 x, .int .i64 y] H K := by
  refine VCall_fn tbl_at74 rfl ?_
  have w1 : IntKind.i64.wrap (y * (w : Int)) = y * w := wrap_i64 (by omega) (by omega)
  simp (disch := omega) [vf74, hd.stor, hp, w1, wrap_i64, hd.addr, hd.load]
  exact hK
theorem ref_parted (hd : Vm.stor d = true) (hp : EdV H p P) (hl : P.length ≤ 1000) (hK : K (.bool (decide (0 < cntE P x y u P.length))) H) : VCall tbl lim 75 [.agg [.int .i64 W, .int .i64 Q, d, p], .agg [.int .i64 x, .int .i64 y, .int .i64 u]] H K := by
  refine VCall_fn tbl_at75 rfl ?_
  simp [vf75, hd, hp.stor, hp.len]
  refine wLoop_up P.length (fun i fr L H' => (fr 2 = .lp 0 0 ∧ fr 3 = .lp 1 0 ∧ fr 5 = .int .i64 i) ∧ L = [[.int .i64 W, .int .i64 Q, d, p], [.int .i64 x, .int .i64 y, .int .i64 u]] ∧ H' = H ∧ cntE P x y u i = 0) ⟨by simp, rfl, rfl, rfl⟩ ?_
  rintro i hi fr L H' ⟨⟨f2, f3, f5⟩, rfl, rfl, hc⟩
  simp [f2, f3, f5, hp.len]
  refine cond_dec (fun ht => ?_) fun hfl => ?_
  · have ht : i < P.length := by omega
    simp (disch := omega) [f2, f3, f5, hp.addr, hp.load, veqA_3]
    refine cond_bool (fun h => ?_) fun h => ?_
    · have h : (P.getD i default).x = x ∧ (P.getD i default).y = y ∧ (P.getD i default).u = u := by simpa using h
      have e : cntE P x y u (i + 1) = cntE P x y u i + 1 := by simp only [cntE]; rw [if_pos h]
      have m := cntE_mono (P := P) (x := x) (y := y) (u := u) (i := i + 1) (j := P.length) (by omega)
      have : 0 < cntE P x y u P.length := by omega
      simp
      simpa [this] using hK
    · have h : ¬ ((P.getD i default).x = x ∧ (P.getD i default).y = y ∧ (P.getD i default).u = u) := by simpa using h
      have e : cntE P x y u (i + 1) = cntE P x y u i := by simp only [cntE]; rw [if_neg h]; omega
      simp (disch := omega) [f2, f3, f5, wrap_i64, e, hc]
      omega
  · have : i = P.length := by omega
    subst this
    simp
    simpa [hc] using hK
theorem ref_turning (hd : SlV H d D) (hp : EdV H p P) (hf : PreF w q D P) (he : isEB w q x y u = true) (hK : K (.int .i64 (tnP w D P x y u)) H) : VCall tbl lim 60 [.agg [.int .i64 w, .int .i64 q, d, p], .agg [.int .i64 x, .int .i64 y, .int .i64 u]] H K := by
  refine VCall_fn tbl_at60 rfl ?_
  have hx := hf.idx he
  have hdd := hf.dlt_bd (x := x) (y := y) (u := u)
  have hpl := hf.pl
  have hw := hf.w1
  have hq := hf.q1
  have hdl := hf.dl
  have hm := mul_bd (a := (w : Int)) (b := (q : Int)) (A := 12) (B := 12) (by omega) (by omega)
  have hlen : D.length ≤ 144 := by omega
  have hc := cntE_bd (P := P) (x := x) (y := y) (u := u) P.length
  have h1 := hf.one (x := x) (y := y) (u := u)
  simp only [tnP] at hK
  have da := hf.dd (y * w + x).toNat
  have db := hf.dd (y * w + x + 1).toNat
  have dc := hf.dd (y * w + x + w).toNat
  rcases isEB_u he with rfl | rfl
  · have ea : y * (w : Int) + (x + 1) = y * w + x + 1 := by omega
    have eu : (0 : Int) = 0 := rfl
    simp (disch := omega) [vf60, hd.stor, hp.stor, wrap_i64, eu]
    refine ref_at (x := x + 1) (y := y) hd hp.stor (by omega) ?_
    simp [hd.stor, hp.stor]
    refine ref_at (x := x) (y := y) hd hp.stor (by omega) ?_
    simp (disch := omega) [ea, wrap_i64, hd.stor, hp.stor]
    refine ref_parted (x := x) (y := y) (u := 0) hd.stor hp (by omega) ?_
    simp
    have ed : dlt w D x y 0 = D.getD (y * w + x + 1).toNat 0 - D.getD (y * w + x).toNat 0 := by simp [dlt]
    rw [ed] at hK hdd
    generalize D.getD (y * w + x + 1).toNat 0 - D.getD (y * w + x).toNat 0 = dl at *
    refine cond_dec (fun h => ?_) fun h => ?_
    · simp (disch := omega) [wrap_i64]
      refine wLoop_up 2 (fun i fr L H' => fr 5 = .int .i64 ((dl + 4) - 8 * (i : Int)) ∧ H' = H ∧ (i = 0 ∨ 4 < (dl + 4) - 8 * ((i : Int) - 1))) ⟨by simp, rfl, .inl rfl⟩ ?_
      rintro i hi fr L H' ⟨f5, rfl, hi2⟩
      simp [f5]
      refine cond_dec (fun ht => ?_) fun hfl => ?_
      · simp (disch := omega) [f5, wrap_i64]
        omega
      · simp [f5]
        refine wLoop_up 2 (fun j fr L H'' => fr 5 = .int .i64 ((dl + 4) - 8 * (i : Int) + 8 * (j : Int)) ∧ H'' = H' ∧ (j = 0 ∨ (dl + 4) - 8 * (i : Int) + 8 * ((j : Int) - 1) < -3)) ⟨by simp [f5], rfl, .inl rfl⟩ ?_
        clear f5
        rintro j hj fr L H' ⟨f5, rfl, hj2⟩
        simp [f5]
        refine cond_dec (fun ht => ?_) fun hfl2 => ?_
        · simp (disch := omega) [f5, wrap_i64]
          omega
        · simp [f5]
          have e : (dl + 4) - 8 * (i : Int) + 8 * (j : Int) = nrm (dl + 4 * cntE P x y 0 P.length) := by unfold nrm; omega
          rw [e]; exact hK
    · simp (disch := omega) [wrap_i64]
      refine wLoop_up 2 (fun i fr L H' => fr 5 = .int .i64 (dl - 8 * (i : Int)) ∧ H' = H ∧ (i = 0 ∨ 4 < dl - 8 * ((i : Int) - 1))) ⟨by simp, rfl, .inl rfl⟩ ?_
      rintro i hi fr L H' ⟨f5, rfl, hi2⟩
      simp [f5]
      refine cond_dec (fun ht => ?_) fun hfl => ?_
      · simp (disch := omega) [f5, wrap_i64]
        omega
      · simp [f5]
        refine wLoop_up 2 (fun j fr L H'' => fr 5 = .int .i64 (dl - 8 * (i : Int) + 8 * (j : Int)) ∧ H'' = H' ∧ (j = 0 ∨ dl - 8 * (i : Int) + 8 * ((j : Int) - 1) < -3)) ⟨by simp [f5], rfl, .inl rfl⟩ ?_
        clear f5
        rintro j hj fr L H' ⟨f5, rfl, hj2⟩
        simp [f5]
        refine cond_dec (fun ht => ?_) fun hfl2 => ?_
        · simp (disch := omega) [f5, wrap_i64]
          omega
        · simp [f5]
          have e : dl - 8 * (i : Int) + 8 * (j : Int) = nrm (dl + 4 * cntE P x y 0 P.length) := by unfold nrm; omega
          rw [e]; exact hK
  · have ea : (y + 1) * (w : Int) + x = y * w + x + w := by rw [Int.add_mul, Int.one_mul]; omega
    have em : (y + 1) * (w : Int) = y * w + w := by rw [Int.add_mul, Int.one_mul]
    have eu : x + 1 - 1 = x := by omega
    simp (disch := omega) [vf60, hd.stor, hp.stor, wrap_i64, eu]
    refine ref_at (x := x) (y := y + 1) hd hp.stor (by omega) ?_
    simp [hd.stor, hp.stor]
    refine ref_at (x := x) (y := y) hd hp.stor (by omega) ?_
    simp (disch := omega) [ea, wrap_i64, hd.stor, hp.stor]
    refine ref_parted (x := x) (y := y) (u := 1) hd.stor hp (by omega) ?_
    simp
    have ed : dlt w D x y 1 = D.getD (y * w + x + w).toNat 0 - D.getD (y * w + x).toNat 0 := by simp [dlt]
    rw [ed] at hK hdd
    generalize D.getD (y * w + x + w).toNat 0 - D.getD (y * w + x).toNat 0 = dl at *
    refine cond_dec (fun h => ?_) fun h => ?_
    · simp (disch := omega) [wrap_i64]
      refine wLoop_up 2 (fun i fr L H' => fr 5 = .int .i64 ((dl + 4) - 8 * (i : Int)) ∧ H' = H ∧ (i = 0 ∨ 4 < (dl + 4) - 8 * ((i : Int) - 1))) ⟨by simp, rfl, .inl rfl⟩ ?_
      rintro i hi fr L H' ⟨f5, rfl, hi2⟩
      simp [f5]
      refine cond_dec (fun ht => ?_) fun hfl => ?_
      · simp (disch := omega) [f5, wrap_i64]
        omega
      · simp [f5]
        refine wLoop_up 2 (fun j fr L H'' => fr 5 = .int .i64 ((dl + 4) - 8 * (i : Int) + 8 * (j : Int)) ∧ H'' = H' ∧ (j = 0 ∨ (dl + 4) - 8 * (i : Int) + 8 * ((j : Int) - 1) < -3)) ⟨by simp [f5], rfl, .inl rfl⟩ ?_
        clear f5
        rintro j hj fr L H' ⟨f5, rfl, hj2⟩
        simp [f5]
        refine cond_dec (fun ht => ?_) fun hfl2 => ?_
        · simp (disch := omega) [f5, wrap_i64]
          omega
        · simp [f5]
          have e : (dl + 4) - 8 * (i : Int) + 8 * (j : Int) = nrm (dl + 4 * cntE P x y 1 P.length) := by unfold nrm; omega
          rw [e]; exact hK
    · simp (disch := omega) [wrap_i64]
      refine wLoop_up 2 (fun i fr L H' => fr 5 = .int .i64 (dl - 8 * (i : Int)) ∧ H' = H ∧ (i = 0 ∨ 4 < dl - 8 * ((i : Int) - 1))) ⟨by simp, rfl, .inl rfl⟩ ?_
      rintro i hi fr L H' ⟨f5, rfl, hi2⟩
      simp [f5]
      refine cond_dec (fun ht => ?_) fun hfl => ?_
      · simp (disch := omega) [f5, wrap_i64]
        omega
      · simp [f5]
        refine wLoop_up 2 (fun j fr L H'' => fr 5 = .int .i64 (dl - 8 * (i : Int) + 8 * (j : Int)) ∧ H'' = H' ∧ (j = 0 ∨ dl - 8 * (i : Int) + 8 * ((j : Int) - 1) < -3)) ⟨by simp [f5], rfl, .inl rfl⟩ ?_
        clear f5
        rintro j hj fr L H' ⟨f5, rfl, hj2⟩
        simp [f5]
        refine cond_dec (fun ht => ?_) fun hfl2 => ?_
        · simp (disch := omega) [f5, wrap_i64]
          omega
        · simp [f5]
          have e : dl - 8 * (i : Int) + 8 * (j : Int) = nrm (dl + 4 * cntE P x y 1 P.length) := by unfold nrm; omega
          rw [e]; exact hK
end
end Go.Proofs.YtgjlhdggllakbaaDoor.Vm
namespace Go.Proofs.YtgjlhdggllakbaaDoor.Vm
open Go
set_option maxRecDepth 100000
set_option linter.unusedSimpArgs false
set_option linter.unusedVariables false
attribute [-simp] List.getD_eq_getElem?_getD

theorem validP_1 {W Q : Int} {D : List Int} {P : List Ed} (h : W < 1 ∨ 12 < W ∨ Q < 1 ∨ 12 < Q ∨ (D.length : Int) ≠ W * Q) : validP W Q D P = 1 := by simp only [validP]; rw [if_pos h]
theorem validP_2 {W Q : Int} {D : List Int} {P : List Ed} (h : ¬ (W < 1 ∨ 12 < W ∨ Q < 1 ∨ 12 < Q ∨ (D.length : Int) ≠ W * Q)) : validP W Q D P =
    if allN (dOk D) D.length = false then 1
    else if 60 < P.length then 4
    else if allN (pOk W Q P) P.length = false then 1
    else if allN (shOk W.toNat D P (edL W.toNat Q.toNat W.toNat)) (edL W.toNat Q.toNat W.toNat).length = false then 9 else 0 := by
  simp only [validP]; rw [if_neg h]
theorem PreF.of {w q : Nat} {D : List Int} {P : List Ed} (h : ¬ ((w : Int) < 1 ∨ 12 < (w : Int) ∨ (q : Int) < 1 ∨ 12 < (q : Int) ∨ (D.length : Int) ≠ (w : Int) * q)) (h2 : allN (dOk D) D.length = true) (h3 : ¬ 60 < P.length) (h4 : allN (pOk w q P) P.length = true) : PreF w q D P := by
  refine ⟨by omega, by omega, by omega, fun i => ?_, by omega, fun i hi => allN_at h4 hi⟩
  by_cases hi : i < D.length
  · have := allN_at h2 hi
    simpa [dOk] using this
  · rw [getD_big (by omega)]; omega
theorem edL_at {w q : Nat} {i : Nat} (hi : i < (edL w q w).length) : isEB w q ((edL w q w).getD i default).x ((edL w q w).getD i default).y ((edL w q w).getD i default).u = true :=
  edL_ok w _ (by simp [List.getD_eq_getElem?_getD, hi])
theorem OwnT.edv {n : Nat} {H : Hp} {v : V} {w q : Nat} (hw : 1 ≤ w ∧ w ≤ 12) (hq : 1 ≤ q ∧ q ≤ 12) (h : OwnT n edC H v (edL w q w)) : EdV H v (edL w q w) := by
  refine ⟨h.lst, fun e he => ?_⟩
  have := edL_ok w e he
  simp only [isEB, decide_eq_true_eq] at this
  unfold Ed.in64 I64; omega

section
variable {lim : Nat} {H : Hp} {K : V → Hp → Prop} {v d p : V} {D : List Int} {P : List Ed} {W Q x y u : Int} {w q : Nat}
theorem flow_Validate (hd : SlV H d D) (hp : EdV H p P) (hW : I64 W) (hQ : I64 Q) (hl : D.length ≤ 100000 ∧ P.length ≤ 100000) (hlim : lim ≤ H.length) (hK : ∀ H', HX H H' → K (.int .i64 (validP W Q D P)) H') : VCall tbl lim 35 [.agg [.int .i64 W, .int .i64 Q, d, p]] H K := by
  refine VCall_fn tbl_at35 rfl ?_
  by_cases h1 : W < 1
  · have e := validP_1 (W := W) (Q := Q) (D := D) (P := P) (by omega)
    rw [e] at hK
    simp [vf35, hd.stor, hp.stor, h1]
    exact hK _ .refl
  by_cases h2 : 12 < W
  · have e := validP_1 (W := W) (Q := Q) (D := D) (P := P) (by omega)
    rw [e] at hK
    simp [vf35, hd.stor, hp.stor, h2]
    exact hK _ .refl
  by_cases h3 : Q < 1
  · have e := validP_1 (W := W) (Q := Q) (D := D) (P := P) (by omega)
    rw [e] at hK
    simp [vf35, hd.stor, hp.stor, h3]
    exact hK _ .refl
  by_cases h4 : 12 < Q
  · have e := validP_1 (W := W) (Q := Q) (D := D) (P := P) (by omega)
    rw [e] at hK
    simp [vf35, hd.stor, hp.stor, h4]
    exact hK _ .refl
  obtain ⟨w, rfl⟩ := Int.eq_ofNat_of_zero_le (show 0 ≤ W by omega)
  obtain ⟨q, rfl⟩ := Int.eq_ofNat_of_zero_le (show 0 ≤ Q by omega)
  have hm := mul_bd (a := (w : Int)) (b := (q : Int)) (A := 12) (B := 12) (by omega) (by omega)
  have w1 : IntKind.i64.wrap ((w : Int) * q) = (w : Int) * q := wrap_i64 (by omega) (by omega)
  simp [vf35, hd.stor, hp.stor, hd.len, hp.len, h1, h2, h3, h4, w1]
  refine cond_ndec (fun h5 => ?_) fun h5 => ?_
  · have e := validP_1 (W := w) (Q := q) (D := D) (P := P) (by omega)
    rw [e] at hK
    simp
    exact hK _ .refl
  have h0 : ¬ ((w : Int) < 1 ∨ 12 < (w : Int) ∨ (q : Int) < 1 ∨ 12 < (q : Int) ∨ (D.length : Int) ≠ (w : Int) * q) := by omega
  rw [validP_2 h0] at hK
  simp [hd.len]
  refine wLoop_up D.length (fun i fr L H' => (fr 1 = .lp 0 0 ∧ fr 39 = d ∧ fr 40 = .int .i64 D.length ∧ fr 41 = .int .i64 i) ∧ L = [[.int .i64 w, .int .i64 q, d, p]] ∧ H' = H ∧ allN (dOk D) i = true) ⟨by simp [hd.len], rfl, rfl, rfl⟩ ?_
  rintro i hi fr L H1 ⟨⟨f1, f39, f40, f41⟩, rfl, e1, hb⟩
  have e1 := e1.symm
  subst e1
  simp [f1, f39, f40, f41]
  refine cond_dec (fun ht => ?_) fun hfl => ?_
  · have ht : i < D.length := by omega
    simp (disch := omega) [f1, f39, f40, f41, hd.addr, hd.load]
    refine cond_bool (fun h => ?_) fun h => ?_
    · have h : D.getD i 0 < 0 ∨ 7 < D.getD i 0 := by simpa using h
      have := allN_not (f := dOk D) ht (by simp [dOk]; omega)
      simp
      simp only [this, if_true] at hK
      exact hK _ .refl
    · have h : ¬ (D.getD i 0 < 0 ∨ 7 < D.getD i 0) := by simp at h; omega
      have e : dOk D i = true := by simp [dOk]; omega
      simp (disch := omega) [f1, f39, f40, f41, wrap_i64, allN, hb, e]
      omega
  have : i = D.length := by omega
  subst this
  simp only [hb, Bool.true_eq_false, if_false] at hK
  simp [f1, f39, f40, f41, hp.len]
  refine cond_dec (fun h6 => ?_) fun h6 => ?_
  · have h6 : 60 < P.length := by omega
    simp only [h6, if_true] at hK
    simp
    exact hK _ .refl
  have h6 : ¬ 60 < P.length := by omega
  simp only [h6, if_false] at hK
  simp [f1, hp.len]
  clear f39 f40 f41
  refine wLoop_up P.length (fun i fr L H' => ∃ X, (fr 1 = .lp 0 0 ∧ fr 57 = p ∧ fr 58 = .int .i64 P.length ∧ fr 59 = .int .i64 i) ∧ L = [.int .i64 w, .int .i64 q, d, p] :: X ∧ HX H H' ∧ allN (pOk w q P) i = true) ⟨[], by simp [f1, hp.len], rfl, .refl, rfl⟩ ?_
  clear f1
  rintro i hi fr L H2 ⟨X, ⟨f1, f57, f58, f59⟩, rfl, hx, hb2⟩
  have hxl := hx.len
  have hp2 := hp.mono hx
  have hd2 := hd.mono hx
  simp [f1, f57, f58, f59]
  refine cond_dec (fun ht => ?_) fun hfl => ?_
  · have ht : i < P.length := by omega
    by_cases ok : isEB w q (P.getD i default).x (P.getD i default).y (P.getD i default).u = true
    case neg =>
      have := allN_not (f := pOk w q P) ht (by simp [pOk, ok])
      simp only [this, if_true] at hK
      simp (disch := omega) [f1, f57, f58, f59, hp2.addr, hp2.load, lastO, lastS, hd.stor, hp.stor]
      refine flow_isEdge (W := (w : Int)) (Q := (q : Int)) hd.stor hp.stor (by omega) (by omega) ?_
      simp [ok]
      exact hK _ hx
    by_cases i0 : i = 0
    · have e : pOk w q P i = true := by simp [pOk, i0]; rw [← i0]; exact ok
      subst i0
      simp (disch := omega) [f1, f57, f58, f59, hp2.addr, hp2.load, lastO, lastS, hd.stor, hp.stor]
      refine flow_isEdge (W := (w : Int)) (Q := (q : Int)) hd.stor hp.stor (by omega) (by omega) ?_
      simp (disch := omega) [ok, f1, f57, f58, f59, wrap_i64, allN, e]
      exact ⟨by omega, hx⟩
    · have hi1 : ((i : Int) - 1).toNat = i - 1 := by omega
      have ip : 0 < i := by omega
      simp (disch := omega) [f1, f57, f58, f59, hp2.addr, hp2.load, lastO, lastS, hd.stor, hp.stor, hp2.len]
      refine flow_isEdge (W := (w : Int)) (Q := (q : Int)) hd.stor hp.stor (by omega) (by omega) ?_
      simp (disch := omega) [ok, f1, f57, f58, f59, wrap_i64, ip, hi1, hp2.addr, hp2.load, lastO, lastS]
      refine flow_compareEdges (a := P.getD (i - 1) default) (b := P.getD i default) (Nat.le_refl _) fun H3 x3 => ?_
      simp
      refine cond_dec (fun h => ?_) fun h => ?_
      · have nb := cmpE_lt.1 h
        have := allN_not (f := pOk w q P) ht (by simp [pOk, ok, i0, nb])
        simp only [this, if_true] at hK
        simp
        exact hK _ (hx.trans x3)
      · have nb : bef (P.getD (i - 1) default) (P.getD i default) := by
          have := mt cmpE_lt.2 h
          exact Decidable.not_not.1 this
        have e : pOk w q P i = true := by simp [pOk, ok, nb]
        simp (disch := omega) [f1, f57, f58, f59, wrap_i64, allN, e, hb2]
        exact ⟨by omega, hx.trans x3⟩
  have : i = P.length := by omega
  subst this
  simp only [hb2, Bool.true_eq_false, if_false] at hK
  have hf := PreF.of h0 hb h6 hb2
  simp [f1, hd.stor, hp.stor]
  refine flow_edges (w := w) (q := q) hd.stor hp.stor hf.w1 hf.q1 (by omega) fun H3 lv x3 hlv => ?_
  have hx3 := hx.trans x3
  have hel := edL_len (w := w) hf.q1.2 w
  have hev := hlv.edv hf.w1 hf.q1
  have hd3 := hd.mono hx3
  have hp3 := hp.mono hx3
  have hw1 := hf.w1
  simp only [Int.toNat_natCast] at hK
  simp [f1, hev.len]
  refine wLoop_up (edL w q w).length (fun i fr L H' => ∃ X, (fr 1 = .lp 0 0 ∧ fr 85 = lv ∧ fr 86 = .int .i64 (edL w q w).length ∧ fr 87 = .int .i64 i) ∧ L = [.int .i64 w, .int .i64 q, d, p] :: X ∧ H' = H3 ∧ allN (shOk w D P (edL w q w)) i = true) ⟨X, by simp [f1, hev.len], rfl, rfl, rfl⟩ ?_
  clear f1 f57 f58 f59 X
  rintro i hi fr L H' ⟨X, ⟨f1, f85, f86, f87⟩, rfl, rfl, hb3⟩
  simp [f1, f85, f86, f87]
  refine cond_dec (fun ht => ?_) fun hfl => ?_
  · have ht : i < (edL w q w).length := by omega
    simp (disch := omega) [f1, f85, f86, f87, hev.addr, hev.load, lastO, lastS, hd.stor, hp.stor]
    refine flow_turning hd3 hp3 hf (edL_at ht) ?_
    simp
    refine cond_dec (fun h => ?_) fun h => ?_
    · have := allN_not (f := shOk w D P (edL w q w)) ht (by simp [shOk, h])
      simp only [this, if_true] at hK
      simp
      exact hK _ hx3
    · have e : shOk w D P (edL w q w) i = true := by simp [shOk, h]
      simp (disch := omega) [f1, f85, f86, f87, wrap_i64, allN, e, hb3]
      omega
  · have : i = (edL w q w).length := by omega
    subst this
    simp only [hb3, Bool.true_eq_false, if_false] at hK
    simp
    exact hK _ hx3
theorem ref_Validate (hd : SlV H d D) (hp : EdV H p P) (hW : I64 W) (hQ : I64 Q) (hl : D.length ≤ 100000 ∧ P.length ≤ 100000) (hlim : lim ≤ H.length) (hK : ∀ H', HX H H' → K (.int .i64 (validP W Q D P)) H') : VCall tbl lim 37 [.agg [.int .i64 W, .int .i64 Q, d, p]] H K := by
  refine VCall_fn tbl_at37 rfl ?_
  by_cases h1 : 1 ≤ W ∧ W ≤ 12
  case neg =>
    have e := validP_1 (W := W) (Q := Q) (D := D) (P := P) (by omega)
    rw [e] at hK
    simp [vf37, hd.stor, hp.stor]
    refine ref_within ?_
    simp [h1]
    exact hK _ .refl
  by_cases h3 : 1 ≤ Q ∧ Q ≤ 12
  case neg =>
    have e := validP_1 (W := W) (Q := Q) (D := D) (P := P) (by omega)
    rw [e] at hK
    simp [vf37, hd.stor, hp.stor]
    refine ref_within ?_
    simp [h1]
    refine ref_within ?_
    simp [h3]
    exact hK _ .refl
  obtain ⟨w, rfl⟩ := Int.eq_ofNat_of_zero_le (show 0 ≤ W by omega)
  obtain ⟨q, rfl⟩ := Int.eq_ofNat_of_zero_le (show 0 ≤ Q by omega)
  have hm := mul_bd (a := (w : Int)) (b := (q : Int)) (A := 12) (B := 12) (by omega) (by omega)
  have w1 : IntKind.i64.wrap ((w : Int) * q) = (w : Int) * q := wrap_i64 (by omega) (by omega)
  simp [vf37, hd.stor, hp.stor]
  refine ref_within ?_
  simp [h1]
  refine ref_within ?_
  simp [h3, hd.len, hp.len, w1]
  refine cond_ndec (fun h5 => ?_) fun h5 => ?_
  · have e := validP_1 (W := w) (Q := q) (D := D) (P := P) (by omega)
    rw [e] at hK
    simp
    exact hK _ .refl
  have h0 : ¬ ((w : Int) < 1 ∨ 12 < (w : Int) ∨ (q : Int) < 1 ∨ 12 < (q : Int) ∨ (D.length : Int) ≠ (w : Int) * q) := by omega
  rw [validP_2 h0] at hK
  refine wLoop_up D.length (fun i fr L H' => (fr 1 = .lp 0 0 ∧ fr 3 = .int .i64 i) ∧ L = [[.int .i64 w, .int .i64 q, d, p]] ∧ H' = H ∧ allN (dOk D) i = true) ⟨by simp, rfl, rfl, rfl⟩ ?_
  rintro i hi fr L H1 ⟨⟨f1, f3⟩, rfl, e1, hb⟩
  have e1 := e1.symm
  subst e1
  simp [f1, f3, hd.len]
  refine cond_dec (fun ht => ?_) fun hfl => ?_
  · have ht : i < D.length := by omega
    simp (disch := omega) [f1, f3, hd.addr, hd.load]
    refine ref_within ?_
    by_cases h : 0 ≤ D.getD i 0 ∧ D.getD i 0 ≤ 7
    · have e : dOk D i = true := by simp [dOk]; omega
      simp (disch := omega) [f1, f3, wrap_i64, allN, hb, e, h]
      omega
    · have := allN_not (f := dOk D) ht (by simp [dOk]; omega)
      simp [h]
      simp only [this, if_true] at hK
      exact hK _ .refl
  have : i = D.length := by omega
  subst this
  simp only [hb, Bool.true_eq_false, if_false] at hK
  simp [f1, f3, hp.len]
  refine cond_dec (fun h6 => ?_) fun h6 => ?_
  · have h6 : 60 < P.length := by omega
    simp only [h6, if_true] at hK
    simp
    exact hK _ .refl
  have h6 : ¬ 60 < P.length := by omega
  simp only [h6, if_false] at hK
  simp [f1]
  clear f3
  refine wLoop_up P.length (fun i fr L H' => (fr 1 = .lp 0 0 ∧ fr 4 = .int .i64 i) ∧ L = [[.int .i64 w, .int .i64 q, d, p]] ∧ HX H H' ∧ allN (pOk w q P) i = true) ⟨by simp [f1], rfl, .refl, rfl⟩ ?_
  clear f1
  rintro i hi fr L H2 ⟨⟨f1, f4⟩, rfl, hx, hb2⟩
  have hxl := hx.len
  have hp2 := hp.mono hx
  have hd2 := hd.mono hx
  simp [f1, f4, hp2.len]
  refine cond_dec (fun ht => ?_) fun hfl => ?_
  · have ht : i < P.length := by omega
    by_cases ok : isEB w q (P.getD i default).x (P.getD i default).y (P.getD i default).u = true
    case neg =>
      have := allN_not (f := pOk w q P) ht (by simp [pOk, ok])
      simp only [this, if_true] at hK
      simp (disch := omega) [f1, f4, hp2.addr, hp2.load, hd.stor, hp.stor]
      refine ref_isEdge (W := (w : Int)) (Q := (q : Int)) hd.stor hp.stor (by omega) (by omega) ?_
      simp [ok]
      exact hK _ hx
    by_cases i0 : i = 0
    · have e : pOk w q P i = true := by simp [pOk, i0]; rw [← i0]; exact ok
      subst i0
      simp (disch := omega) [f1, f4, hp2.addr, hp2.load, hd.stor, hp.stor]
      refine ref_isEdge (W := (w : Int)) (Q := (q : Int)) hd.stor hp.stor (by omega) (by omega) ?_
      simp (disch := omega) [ok, f1, f4, wrap_i64, allN, e]
      exact ⟨by omega, hx⟩
    · have hi1 : ((i : Int) - 1).toNat = i - 1 := by omega
      have ip : 0 < i := by omega
      simp (disch := omega) [f1, f4, hp2.addr, hp2.load, hd.stor, hp.stor, hp2.len]
      refine ref_isEdge (W := (w : Int)) (Q := (q : Int)) hd.stor hp.stor (by omega) (by omega) ?_
      simp (disch := omega) [ok, f1, f4, wrap_i64, ip, hi1, hp2.addr, hp2.load]
      refine ref_before (a := P.getD (i - 1) default) (b := P.getD i default) ?_
      by_cases nb : bef (P.getD (i - 1) default) (P.getD i default)
      · have e : pOk w q P i = true := by simp [pOk, ok, nb]
        simp (disch := omega) [f1, f4, wrap_i64, allN, e, hb2, nb]
        exact ⟨by omega, hx⟩
      · have := allN_not (f := pOk w q P) ht (by simp [pOk, ok, i0, nb])
        simp only [this, if_true] at hK
        simp [nb]
        exact hK _ hx
  have : i = P.length := by omega
  subst this
  simp only [hb2, Bool.true_eq_false, if_false] at hK
  have hf := PreF.of h0 hb h6 hb2
  simp [f1, hd.stor, hp.stor]
  refine ref_edges (w := w) (q := q) hd.stor hp.stor hf.w1 hf.q1 (by omega) fun H3 lv x3 hlv => ?_
  have hx3 := hx.trans x3
  have hel := edL_len (w := w) hf.q1.2 w
  have hev := hlv.edv hf.w1 hf.q1
  have hd3 := hd.mono hx3
  have hp3 := hp.mono hx3
  have hw1 := hf.w1
  simp only [Int.toNat_natCast] at hK
  simp [f1]
  refine wLoop_up (edL w q w).length (fun i fr L H' => (fr 1 = .lp 0 0 ∧ fr 5 = lv ∧ fr 6 = .int .i64 i) ∧ L = [[.int .i64 w, .int .i64 q, d, p]] ∧ H' = H3 ∧ allN (shOk w D P (edL w q w)) i = true) ⟨by simp [f1], rfl, rfl, rfl⟩ ?_
  clear f1 f4
  rintro i hi fr L H' ⟨⟨f1, f5, f6⟩, rfl, rfl, hb3⟩
  simp [f1, f5, f6, hev.len]
  refine cond_dec (fun ht => ?_) fun hfl => ?_
  · have ht : i < (edL w q w).length := by omega
    simp (disch := omega) [f1, f5, f6, hev.addr, hev.load, hd.stor, hp.stor]
    refine ref_turning hd3 hp3 hf (edL_at ht) ?_
    simp
    refine cond_dec (fun h => ?_) fun h => ?_
    · have := allN_not (f := shOk w D P (edL w q w)) ht (by simp [shOk, h])
      simp only [this, if_true] at hK
      simp
      exact hK _ hx3
    · have e : shOk w D P (edL w q w) i = true := by simp [shOk, h]
      simp (disch := omega) [f1, f5, f6, wrap_i64, allN, e, hb3]
      omega
  · have : i = (edL w q w).length := by omega
    subst this
    simp only [hb3, Bool.true_eq_false, if_false] at hK
    simp
    exact hK _ hx3
end
end Go.Proofs.YtgjlhdggllakbaaDoor.Vm
namespace Go.Proofs.YtgjlhdggllakbaaDoor.Vm
open Go
set_option maxRecDepth 100000
set_option linter.unusedSimpArgs false
set_option linter.unusedVariables false
attribute [-simp] List.getD_eq_getElem?_getD

structure Fld where
  W : Int
  Q : Int
  D : List Int
  P : List Ed
/-- the cells of a field -/
inductive FldV (H : Hp) : List V → Fld → Prop
  | mk {d p : V} {W Q : Int} {D : List Int} {P : List Ed} : I64 W → I64 Q → SlV H d D → EdV H p P → (∀ x ∈ D, I64 x) → FldV H [.int .i64 W, .int .i64 Q, d, p] ⟨W, Q, D, P⟩
theorem eds_of {H : Hp} {v : V} {d : CD} (h : RepT H (.sl [cInt, cInt, cInt]) v d) : ∃ l, EdV H v l := by
  obtain ⟨l, h1, _, h3⟩ := lst_of (c := edC) rfl (fun z => z.in64) (fun vs ds h => by
    obtain ⟨v0, u0, _, _, rfl, _, p0, q0⟩ := reps_cons h
    obtain ⟨v1, u1, _, _, rfl, _, p1, q1⟩ := reps_cons q0
    obtain ⟨v2, u2, _, _, rfl, _, p2, q2⟩ := reps_cons q1
    have e := reps_nil q2
    subst e
    obtain ⟨n0, rfl, c0⟩ := int_of p0
    obtain ⟨n1, rfl, c1⟩ := int_of p1
    obtain ⟨n2, rfl, c2⟩ := int_of p2
    exact ⟨⟨n0, n1, n2⟩, rfl, c0, c1, c2⟩) h
  exact ⟨l, h1, h3⟩
theorem fld_of {H : Hp} {ws : List V} {ds : List CD} (h : RepTs H [cInt, cInt, cInts, .sl [cInt, cInt, cInt]] ws ds) : ∃ f, FldV H ws f := by
  obtain ⟨v0, u0, _, _, rfl, _, p0, q0⟩ := reps_cons h
  obtain ⟨v1, u1, _, _, rfl, _, p1, q1⟩ := reps_cons q0
  obtain ⟨v2, u2, _, _, rfl, _, p2, q2⟩ := reps_cons q1
  obtain ⟨v3, u3, _, _, rfl, _, p3, q3⟩ := reps_cons q2
  have e := reps_nil q3
  subst e
  obtain ⟨n0, rfl, c0⟩ := int_of p0
  obtain ⟨n1, rfl, c1⟩ := int_of p1
  obtain ⟨l2, c2, _, z2⟩ := ints_of p2
  obtain ⟨l3, c3⟩ := eds_of p3
  exact ⟨⟨n0, n1, l2, l3⟩, .mk c0 c1 c2 c3 z2⟩

theorem z4 : ints (zs 4) = [.int .i64 0, .int .i64 0, .int .i64 0, .int .i64 0] := Eq.trans rfl rfl
theorem g43 {a b c d : V} : [a, b, c, d].getD 3 dv = d := Eq.trans rfl rfl
theorem td4 {n : Int} (h1 : -100 ≤ n) (h2 : n ≤ 100) : -100 ≤ n.tdiv 4 ∧ n.tdiv 4 ≤ 100 := by
  by_cases h : 0 ≤ n
  · rw [Int.tdiv_eq_ediv_of_nonneg h]; omega
  · have e : n = -(-n) := by omega
    rw [e, Int.neg_tdiv, Int.tdiv_eq_ediv_of_nonneg (by omega)]; omega
def rndP (w : Nat) (D : List Int) (P : List Ed) (x y : Int) : Int := tnP w D P x y 0 + tnP w D P (x + 1) y 1 - tnP w D P x (y + 1) 0 - tnP w D P x y 1
theorem rnd_bd {w : Nat} {D : List Int} {P : List Ed} {x y : Int} : -100 ≤ rndP w D P x y ∧ rndP w D P x y ≤ 100 := by
  have b0 := tnP_bd (w := w) (D := D) (P := P) (x := x) (y := y) (u := 0)
  have b1 := tnP_bd (w := w) (D := D) (P := P) (x := x + 1) (y := y) (u := 1)
  have b2 := tnP_bd (w := w) (D := D) (P := P) (x := x) (y := y + 1) (u := 0)
  have b3 := tnP_bd (w := w) (D := D) (P := P) (x := x) (y := y) (u := 1)
  unfold rndP; omega
def psum (w : Nat) (D : List Int) (P : List Ed) (x y : Int) : Nat → Int
  | 0 => 0
  | 1 => tnP w D P x y 0
  | 2 => tnP w D P x y 0 + tnP w D P (x + 1) y 1
  | 3 => tnP w D P x y 0 + tnP w D P (x + 1) y 1 - tnP w D P x (y + 1) 0
  | _ => rndP w D P x y
def isSB (W Q x y : Int) : Bool := decide (0 ≤ x ∧ x < W - 1 ∧ 0 ≤ y ∧ y < Q - 1)
theorem isSB_ed {w q : Nat} {x y : Int} (h : isSB w q x y = true) : isEB w q x y 0 = true ∧ isEB w q (x + 1) y 1 = true ∧ isEB w q x (y + 1) 0 = true ∧ isEB w q x y 1 = true := by
  simp [isSB, isEB] at *
  omega
def trnP (W Q : Int) (D : List Int) (P : List Ed) (x y u : Int) : Int × Int := if validP W Q D P = 0 then (if isEB W Q x y u = true then (tnP W.toNat D P x y u, 0) else (0, 5)) else (0, validP W Q D P)
def indexP (W Q : Int) (D : List Int) (P : List Ed) (x y : Int) : Int × Int := if validP W Q D P = 0 then (if isSB W Q x y = true then ((rndP W.toNat D P x y).tdiv 4, 0) else (0, 5)) else (0, validP W Q D P)
theorem valid_pre {W Q : Int} {D : List Int} {P : List Ed} (h : validP W Q D P = 0) : ∃ w q : Nat, W = w ∧ Q = q ∧ PreF w q D P := by
  by_cases h0 : W < 1 ∨ 12 < W ∨ Q < 1 ∨ 12 < Q ∨ (D.length : Int) ≠ W * Q
  · rw [validP_1 h0] at h; omega
  obtain ⟨w, rfl⟩ := Int.eq_ofNat_of_zero_le (show 0 ≤ W by omega)
  obtain ⟨q, rfl⟩ := Int.eq_ofNat_of_zero_le (show 0 ≤ Q by omega)
  rw [validP_2 h0] at h
  by_cases h1 : allN (dOk D) D.length = true
  case neg => simp [h1] at h
  by_cases h2 : 60 < P.length
  · simp [h1, h2] at h
  by_cases h3 : allN (pOk w q P) P.length = true
  case neg => simp [h1, h2, h3] at h
  exact ⟨w, q, rfl, rfl, PreF.of h0 h1 h2 h3⟩

section
variable {lim : Nat} {H : Hp} {K : V → Hp → Prop} {v d p d' p' : V} {D D' : List Int} {P P' : List Ed} {W Q x y u : Int} {w q : Nat}
theorem flow_rim (hx : -1000 ≤ x ∧ x ≤ 1000) (hy : -1000 ≤ y ∧ y ≤ 1000) (hK : K (.agg [.int .i64 x, .int .i64 y, .int .i64 0, .int .i64 1, .int .i64 (x + 1), .int .i64 y, .int .i64 1, .int .i64 1, .int .i64 x, .int .i64 (y + 1), .int .i64 0, .int .i64 (-1), .int .i64 x, .int .i64 y, .int .i64 1, .int .i64 (-1)]) H) : VCall tbl lim 68 [.int .i64 x, .int .i64 y] H K := by
  refine VCall_fn tbl_at68 rfl ?_
  simp (disch := omega) [vf68, splice, wrap_i64, rd, zsV]
  exact hK
theorem flow_index (hd : SlV H d D) (hp : EdV H p P) (hf : PreF w q D P) (hs : isSB w q x y = true) (hK : K (.int .i64 ((rndP w D P x y).tdiv 4)) H) : VCall tbl lim 50 [.agg [.int .i64 w, .int .i64 q, d, p], .int .i64 x, .int .i64 y] H K := by
  refine VCall_fn tbl_at50 rfl ?_
  obtain ⟨e0, e1, e2, e3⟩ := isSB_ed hs
  have i0 := hf.idx e0
  simp [vf50, hd.stor, hp.stor]
  refine flow_rim (by omega) (by omega) ?_
  simp
  refine wLoop_up 4 (fun i fr L H' => ∃ X, (fr 3 = .lp 0 0 ∧ fr 7 = .int .i64 (psum w D P x y i) ∧ fr 12 = .agg [.int .i64 x, .int .i64 y, .int .i64 0, .int .i64 1, .int .i64 (x + 1), .int .i64 y, .int .i64 1, .int .i64 1, .int .i64 x, .int .i64 (y + 1), .int .i64 0, .int .i64 (-1), .int .i64 x, .int .i64 y, .int .i64 1, .int .i64 (-1)] ∧ fr 13 = .int .i64 i) ∧ L = [.int .i64 w, .int .i64 q, d, p] :: X ∧ H' = H) ⟨[], by simp [psum], rfl, rfl⟩ ?_
  rintro i hi fr L H' ⟨X, ⟨f3, f7, f12, f13⟩, rfl, rfl⟩
  have b0 := tnP_bd (w := w) (D := D) (P := P) (x := x) (y := y) (u := 0)
  have b1 := tnP_bd (w := w) (D := D) (P := P) (x := x + 1) (y := y) (u := 1)
  have b2 := tnP_bd (w := w) (D := D) (P := P) (x := x) (y := y + 1) (u := 0)
  have b3 := tnP_bd (w := w) (D := D) (P := P) (x := x) (y := y) (u := 1)
  rcases (show i = 0 ∨ i = 1 ∨ i = 2 ∨ i = 3 ∨ i = 4 by omega) with rfl | rfl | rfl | rfl | rfl
  · simp [f3, f7, f12, f13, vidxA, vint, vfield, rd, lastO, lastS, z4, g43, hd.stor, hp.stor]
    refine flow_turning hd hp hf e0 ?_
    simp (disch := omega) [f3, f7, f12, f13, wrap_i64, psum]
  · simp [f3, f7, f12, f13, vidxA, vint, vfield, rd, lastO, lastS, z4, g43, hd.stor, hp.stor]
    refine flow_turning hd hp hf e1 ?_
    simp (disch := omega) [f3, f7, f12, f13, wrap_i64, psum]
  · simp [f3, f7, f12, f13, vidxA, vint, vfield, rd, lastO, lastS, z4, g43, hd.stor, hp.stor]
    refine flow_turning hd hp hf e2 ?_
    simp (disch := omega) [f3, f7, f12, f13, wrap_i64, psum]
    omega
  · simp [f3, f7, f12, f13, vidxA, vint, vfield, rd, lastO, lastS, z4, g43, hd.stor, hp.stor]
    refine flow_turning hd hp hf e3 ?_
    simp (disch := omega) [f3, f7, f12, f13, wrap_i64, psum, rndP]
    omega
  · have hb := td4 (n := rndP w D P x y) (by unfold rndP; omega) (by unfold rndP; omega)
    simp (disch := omega) [f3, f7, f12, f13, psum, wrap_i64]
    exact hK
theorem isSB_w {W Q x y : Int} : decide (0 ≤ x ∧ x < W - 1 ∧ 0 ≤ y ∧ y < Q - 1) = isSB W Q x y := Eq.trans rfl rfl
def fldA (W Q : Int) (d p : V) : V := .agg [.int .i64 W, .int .i64 Q, d, p]
theorem flow_Index (hd : SlV H d D) (hp : EdV H p P) (hW : I64 W) (hQ : I64 Q) (hl : D.length ≤ 100000 ∧ P.length ≤ 100000) (hlim : lim ≤ H.length) (hK : ∀ H', HX H H' → K (.tup [.int .i64 (indexP W Q D P x y).1, .int .i64 (indexP W Q D P x y).2]) H') : VCall tbl lim 33 [.agg [.int .i64 W, .int .i64 Q, d, p], .int .i64 x, .int .i64 y] H K := by
  refine VCall_fn tbl_at33 rfl ?_
  simp [vf33, hd.stor, hp.stor]
  refine flow_Validate hd hp hW hQ hl hlim fun H1 x1 => ?_
  replace x1 : HX H H1 := x1
  simp
  refine cond_ndec (fun h => ?_) fun h => ?_
  · simp
    simpa [indexP, h] using hK _ x1
  obtain ⟨w, q, rfl, rfl, hf⟩ := valid_pre h
  simp [hd.stor, hp.stor]
  refine flow_isSquare hd.stor hp.stor (by have := hf.w1; omega) (by have := hf.q1; omega) ?_
  rw [isSB_w]
  by_cases he : isSB w q x y = true
  · simp [he, hd.stor, hp.stor]
    refine flow_index (hd.mono x1) (hp.mono x1) hf he ?_
    simp
    simpa [indexP, h, he] using hK _ x1
  · simp [he]
    simpa [indexP, h, he] using hK _ x1
theorem fl_known (hlim : lim ≤ H.length) (hK : ∀ H', HX H H' → K (.bool true) H') : VCall tbl lim 14 [] H K := by
  refine VCall_fn tbl_at14 rfl ?_
  simp [vf14]
  refine VCall_fn tbl_at34 rfl ?_
  simp [vf34, splice]
  refine flow_Index (D := [5, 7, 3, 1]) (P := []) (.lit (own := true) (l := [5, 7, 3, 1]) List.getElem?_concat_length rfl) ⟨.nil, by simp⟩ (by unfold I64; omega) (by unfold I64; omega) (by simp) (by simp; omega) fun H1 x1 => ?_
  have e : indexP 2 2 [5, 7, 3, 1] [] 0 0 = (2, 0) := by decide
  simp [e]
  exact hK _ (HX.push.trans x1)
theorem fl_Long (hd : SlV H d D) (hp : EdV H p P) (hK : K (.bool (decide (400 < D.length ∨ 200 < P.length))) H) : VCall tbl lim 13 [.agg [.int .i64 W, .int .i64 Q, d, p]] H K := by
  refine VCall_fn tbl_at13 rfl ?_
  simp [vf13, hd.stor, hp.stor, hd.len, hp.len]
  have e1 : decide (400 < (D.length : Int)) = decide (400 < D.length) := by simp only [decide_eq_decide]; omega
  have e2 : decide (200 < (P.length : Int)) = decide (200 < P.length) := by simp only [decide_eq_decide]; omega
  rw [e1, e2]
  simpa using hK
theorem ref_Same (hd : SlV H d D) (hp : EdV H p P) (hd' : SlV H d' D') (hp' : EdV H p' P') (hl : D.length ≤ 100000 ∧ P.length ≤ 100000) (hK : K (.bool (decide (W = x ∧ Q = y ∧ D = D' ∧ P = P'))) H) : VCall tbl lim 19 [.agg [.int .i64 W, .int .i64 Q, d, p], .agg [.int .i64 x, .int .i64 y, d', p']] H K := by
  refine VCall_fn tbl_at19 rfl ?_
  by_cases h1 : W = x
  case neg =>
    simp [vf19, hd.stor, hp.stor, hd'.stor, hp'.stor, h1]
    simpa [h1] using hK
  by_cases h2 : Q = y
  case neg =>
    simp [vf19, hd.stor, hp.stor, hd'.stor, hp'.stor, h1, h2]
    simpa [h2] using hK
  subst h1 h2
  simp [vf19, hd.stor, hp.stor, hd'.stor, hp'.stor]
  refine ref01_SameInts hd hd' (by omega) ?_
  by_cases h3 : D = D'
  case neg =>
    simp [h3]
    simpa [h3] using hK
  simp [h3, hp.len, hp'.len]
  refine cond_ndec (fun h4 => ?_) fun h4 => ?_
  · have : P ≠ P' := by intro e; subst e; exact h4 rfl
    simp
    simpa [this] using hK
  have h4 : P.length = P'.length := by omega
  simp
  refine wLoop_up P.length (fun i fr L H' => (fr 2 = .lp 0 0 ∧ fr 3 = .lp 1 0 ∧ fr 5 = .int .i64 i) ∧ L = [[.int .i64 W, .int .i64 Q, d, p], [.int .i64 W, .int .i64 Q, d', p']] ∧ H' = H ∧ P.take i = P'.take i) ⟨by simp, by simp, rfl, by simp⟩ ?_
  rintro i hi fr L H2 ⟨⟨f2, f3, f5⟩, rfl, rfl, he⟩
  simp [f2, f3, f5, hp.len]
  refine cond_dec (fun ht => ?_) fun hfl => ?_
  · have ht : i < P.length := by omega
    simp (disch := omega) [f2, f3, f5, hp.addr, hp.load, hp'.addr, hp'.load, veqA_3]
    have e1 : P.take (i + 1) = P.take i ++ [P.getD i default] := by
      rw [List.take_add_one, List.getElem?_eq_getElem ht]; simp [List.getD_eq_getElem?_getD, ht]
    have e2 : P'.take (i + 1) = P'.take i ++ [P'.getD i default] := by
      rw [List.take_add_one, List.getElem?_eq_getElem (by omega)]; simp [List.getD_eq_getElem?_getD, h4 ▸ ht]
    by_cases hq : P.getD i default = P'.getD i default
    · simp (disch := omega) [hq, f2, f3, f5, wrap_i64]
      refine ⟨by omega, ?_⟩
      rw [e1, e2, he, hq]
    · have : P ≠ P' := by intro e; subst e; exact hq rfl
      have hq2 : ¬ ((P.getD i default).x = (P'.getD i default).x ∧ (P.getD i default).y = (P'.getD i default).y ∧ (P.getD i default).u = (P'.getD i default).u) := by
        rintro ⟨q1, q2, q3⟩
        apply hq
        cases hA : P.getD i default
        cases hB : P'.getD i default
        rw [hA, hB] at q1 q2 q3
        simp at q1 q2 q3
        subst q1 q2 q3
        rfl
      refine cond_bool (fun h => ?_) fun h => ?_
      · simp
        simpa [this] using hK
      · exfalso
        apply hq2
        simpa using h
  · have : i = P.length := by omega
    subst this
    rw [List.take_length, h4, List.take_length] at he
    simp
    simpa [he, h3] using hK
end
end Go.Proofs.YtgjlhdggllakbaaDoor.Vm
