/- Package dye over the machine: what the laws know. -/
import Derived.Test.YtkmcdiajcnejiaaDyB
namespace Go.Proofs.Ytkmcdiajcnejiaa.Vm
open Go
set_option maxRecDepth 100000
set_option linter.unusedSimpArgs false
set_option linter.unusedVariables false
attribute [-simp] List.getD_eq_getElem?_getD

theorem fr0_5 {a b c d e f : V} {l : List V} : fr0 (a :: b :: c :: d :: e :: f :: l) 5 = f := Eq.trans rfl rfl
theorem fr0_6 {a b c d e f g : V} {l : List V} : fr0 (a :: b :: c :: d :: e :: f :: g :: l) 6 = g := Eq.trans rfl rfl
attribute [simp] fr0_5 fr0_6
theorem setAt {α : Type} {X l : List α} {k : Nat} {x : α} : (X ++ l).set (X.length + k) x = X ++ l.set k x := by rw [List.set_append_right _ _ (by omega)]; congr 2; omega
def gl (g0 g1 : Int) : List Int := [g0, 0, 0, 0, 0, 0, g1, 0, 0, 0, 0, 0, 0, 0, 0, 0, 0, 0, 0, 0, 0, 0, 0, 0, 0, 0, 0, 0, 0, 0, 0, 0, 0, 0, 0, 0]
theorem gl_len {g0 g1 : Int} : (gl g0 g1).length = 36 := Eq.trans rfl rfl
theorem gl_set0 {g0 g1 y : Int} : splice (ints (gl g0 g1)) 0 [.int .i64 y] = ints (gl y g1) := Eq.trans rfl rfl
theorem gl_set6 {g0 g1 y : Int} : splice (ints (gl g0 g1)) 6 [.int .i64 y] = ints (gl g0 y) := Eq.trans rfl rfl
theorem gl_get0 {g0 g1 : Int} : rd none (ints (gl g0 g1)) 0 = some (.int .i64 g0) := Eq.trans rfl rfl
theorem gl_get6 {g0 g1 : Int} : rd none (ints (gl g0 g1)) 6 = some (.int .i64 g1) := Eq.trans rfl rfl
def trL (tr : Bool) : List V := [.bool tr, .bool false, .bool false, .bool false, .bool false, .bool false]
theorem trL_get {tr : Bool} : rd none (trL tr) 0 = some (.bool tr) := Eq.trans rfl rfl
theorem trL_set {tr b : Bool} : splice (trL tr) 0 [.bool b] = trL b := Eq.trans rfl rfl
def lfL (x : Int) : List V := [.int .i64 x, .int .i64 3, .int .i64 0, .int .i64 0]
theorem lfL_get {x : Int} : rd none (lfL x) 0 = some (.int .i64 x) := Eq.trans rfl rfl
theorem lfL_all {x : Int} : rd (some 4) (lfL x) 0 = some (.agg [.int .i64 x, .int .i64 3, .int .i64 0, .int .i64 0]) := Eq.trans rfl rfl
theorem lfL_set {x y : Int} : splice (lfL x) 0 [.int .i64 y] = lfL y := Eq.trans rfl rfl
def lfL0 : List V := [.int .i64 0, .int .i64 0, .int .i64 0, .int .i64 0]
def wnL : List V := [.int .i64 50, .int .i64 3, .int .i64 0, .int .i64 0, .int .i64 0, .int .i64 40, .int .i64 3, .int .i64 0, .int .i64 0, .int .i64 0]
theorem wnL_0 : rd (some 5) wnL 0 = some (.agg [.int .i64 50, .int .i64 3, .int .i64 0, .int .i64 0, .int .i64 0]) := Eq.trans rfl rfl
theorem wnL_1 : rd (some 5) wnL 5 = some (.agg [.int .i64 40, .int .i64 3, .int .i64 0, .int .i64 0, .int .i64 0]) := Eq.trans rfl rfl
def getV (n : Nat) : V := .func (.func 79) [] [.ptr (n + 4) 0, .ptr (n + 6) 0, .ptr (n + 2) 0, .ptr (n + 5) 0, .ptr (n + 7) 0]
theorem rd1 {a : V} : rd none [a] 0 = some a := Eq.trans rfl rfl
/-- the heap amid the example: what is left, what is given, whether the lot was tried -/
def exR (n : Nat) (x g0 g1 : Int) (tr : Bool) : Hp := [.row (lfL 60) true, .row wnL true, .row [.sl (n + 1) 0 2 5] true, .row (lfL x) true, .row [.sl (n + 3) 0 1 4] true,
  .row (ints (gl g0 g1)) true, .row (trL tr) true, .row [getV n] true]
def exH (H : Hp) (x g0 g1 : Int) (tr : Bool) : Hp := H ++ exR H.length x g0 g1 tr
section
variable {lim : Nat} {H : Hp} {K : V → Hp → Prop} {x y g0 g1 w m : Int} {tr b : Bool}
theorem ex1 : (exH H x g0 g1 tr)[H.length + 1]? = some (.row wnL true) := by rw [exH, loAt]; rfl
theorem ex2 : (exH H x g0 g1 tr)[H.length + 2]? = some (.row [.sl (H.length + 1) 0 2 5] true) := by rw [exH, loAt]; rfl
theorem ex3 : (exH H x g0 g1 tr)[H.length + 3]? = some (.row (lfL x) true) := by rw [exH, loAt]; rfl
theorem ex4 : (exH H x g0 g1 tr)[H.length + 4]? = some (.row [.sl (H.length + 3) 0 1 4] true) := by rw [exH, loAt]; rfl
theorem ex5 : (exH H x g0 g1 tr)[H.length + 5]? = some (.row (ints (gl g0 g1)) true) := by rw [exH, loAt]; rfl
theorem ex6 : (exH H x g0 g1 tr)[H.length + 6]? = some (.row (trL tr) true) := by rw [exH, loAt]; rfl
theorem ex7 : (exH H x g0 g1 tr)[H.length + 7]? = some (.row [getV H.length] true) := by rw [exH, loAt]; rfl
theorem sx3 : (exH H x g0 g1 tr).set (H.length + 3) (.row (lfL y) true) = exH H y g0 g1 tr := by rw [exH, setAt]; rfl
theorem sx5a : (exH H x g0 g1 tr).set (H.length + 5) (.row (ints (gl y w)) true) = exH H x y w tr := by rw [exH, setAt]; rfl
theorem sx6 : (exH H x g0 g1 tr).set (H.length + 6) (.row (trL b) true) = exH H x g0 g1 b := by rw [exH, setAt]; rfl
theorem exLen : (exH H x g0 g1 tr).length = H.length + 8 := by simp [exH, exR]
theorem get_tried (hlim : lim ≤ H.length) (hK : K (.int .i64 0) (exH H x g0 g1 true)) : VCall tbl lim 79 [.int .i64 w, .int .i64 m, .ptr (H.length + 4) 0, .ptr (H.length + 6) 0, .ptr (H.length + 2) 0, .ptr (H.length + 5) 0, .ptr (H.length + 7) 0] (exH H x g0 g1 true) K := by
  refine VCall_fn tbl_at79 rfl ?_
  simp [vf79, ex4, rd1, vlenS_sl]
  refine wLoop_round ?_
  simp [ex6, trL_get]
  refine wLoop_round ?_
  simp
  exact hK
theorem mn1 : min (50 : Int) 60 = 50 := by decide
theorem mn2 : min (40 : Int) 10 = 10 := by decide
theorem mn3 : min (30 : Int) 0 = 0 := by decide
theorem mn4 : min (30 : Int) 50 = 30 := by decide
theorem mn5 : min (30 : Int) 10 = 10 := by decide
theorem tgV {n : Nat} {a b : V} : vtarget (getV n) [a, b] = some (79, [a, b, .ptr (n + 4) 0, .ptr (n + 6) 0, .ptr (n + 2) 0, .ptr (n + 5) 0, .ptr (n + 7) 0]) := Eq.trans rfl rfl
attribute [simp] mn1 mn2 mn3 mn4 mn5 tgV
theorem near0 : nearB 3 0 0 3 0 0 0 = true := by decide
theorem trL_len {tr : Bool} : (trL tr).length = 6 := Eq.trans rfl rfl
theorem lfL_len {x : Int} : (lfL x).length = 4 := Eq.trans rfl rfl
theorem exg_1 (hlim : lim ≤ H.length) (hK : K (.int .i64 50) (exH H 10 50 0 true)) : VCall tbl lim 79 [.int .i64 0, .int .i64 50, .ptr (H.length + 4) 0, .ptr (H.length + 6) 0, .ptr (H.length + 2) 0, .ptr (H.length + 5) 0, .ptr (H.length + 7) 0] (exH H 60 0 0 false) K := by
  refine VCall_fn tbl_at79 rfl ?_
  have l3 : lim ≤ H.length + 3 := by omega
  have l5 : lim ≤ H.length + 5 := by omega
  have l6 : lim ≤ H.length + 6 := by omega
  simp [vf79, ex1, ex2, ex3, ex4, ex5, ex6, ex7, sx3, sx5a, sx6, rd1, vlenS_sl, trL_get, trL_set, lfL_get, lfL_all, lfL_set, wnL_0, wnL_1, gl_set0, gl_set6, gl_get0, gl_get6, gl_len, vstoreH, trL_len, lfL_len, l3, l5, l6]
  refine wLoop_round ?_
  simp [ex1, ex2, ex3, ex4, ex5, ex6, ex7, sx3, sx5a, sx6, rd1, vlenS_sl, trL_get, trL_set, lfL_get, lfL_all, lfL_set, wnL_0, wnL_1, gl_set0, gl_set6, gl_get0, gl_get6, gl_len, vstoreH, trL_len, lfL_len, l3, l5, l6]
  refine dye_Near ?_
  simp (disch := omega) [ex1, ex2, ex3, ex4, ex5, ex6, ex7, sx3, sx5a, sx6, rd1, vlenS_sl, trL_get, trL_set, lfL_get, lfL_all, lfL_set, wnL_0, wnL_1, gl_set0, gl_set6, gl_get0, gl_get6, gl_len, vstoreH, trL_len, lfL_len, l3, l5, l6, near0, wrap_i64]
  refine wLoop_round ?_
  simp (disch := omega) [ex1, ex2, ex3, ex4, ex5, ex6, ex7, sx3, sx5a, sx6, rd1, vlenS_sl, trL_get, trL_set, lfL_get, lfL_all, lfL_set, wnL_0, wnL_1, gl_set0, gl_set6, gl_get0, gl_get6, gl_len, vstoreH, trL_len, lfL_len, l3, l5, l6, near0, wrap_i64]
  exact hK
theorem exg_2 (hlim : lim ≤ H.length) (hK : K (.int .i64 10) (exH H 0 50 10 true)) : VCall tbl lim 79 [.int .i64 1, .int .i64 40, .ptr (H.length + 4) 0, .ptr (H.length + 6) 0, .ptr (H.length + 2) 0, .ptr (H.length + 5) 0, .ptr (H.length + 7) 0] (exH H 10 50 0 false) K := by
  refine VCall_fn tbl_at79 rfl ?_
  have l3 : lim ≤ H.length + 3 := by omega
  have l5 : lim ≤ H.length + 5 := by omega
  have l6 : lim ≤ H.length + 6 := by omega
  simp [vf79, ex1, ex2, ex3, ex4, ex5, ex6, ex7, sx3, sx5a, sx6, rd1, vlenS_sl, trL_get, trL_set, lfL_get, lfL_all, lfL_set, wnL_0, wnL_1, gl_set0, gl_set6, gl_get0, gl_get6, gl_len, vstoreH, trL_len, lfL_len, l3, l5, l6]
  refine wLoop_round ?_
  simp [ex1, ex2, ex3, ex4, ex5, ex6, ex7, sx3, sx5a, sx6, rd1, vlenS_sl, trL_get, trL_set, lfL_get, lfL_all, lfL_set, wnL_0, wnL_1, gl_set0, gl_set6, gl_get0, gl_get6, gl_len, vstoreH, trL_len, lfL_len, l3, l5, l6]
  refine dye_Near ?_
  simp (disch := omega) [ex1, ex2, ex3, ex4, ex5, ex6, ex7, sx3, sx5a, sx6, rd1, vlenS_sl, trL_get, trL_set, lfL_get, lfL_all, lfL_set, wnL_0, wnL_1, gl_set0, gl_set6, gl_get0, gl_get6, gl_len, vstoreH, trL_len, lfL_len, l3, l5, l6, near0, wrap_i64]
  refine wLoop_round ?_
  simp (disch := omega) [ex1, ex2, ex3, ex4, ex5, ex6, ex7, sx3, sx5a, sx6, rd1, vlenS_sl, trL_get, trL_set, lfL_get, lfL_all, lfL_set, wnL_0, wnL_1, gl_set0, gl_set6, gl_get0, gl_get6, gl_len, vstoreH, trL_len, lfL_len, l3, l5, l6, near0, wrap_i64]
  exact hK
theorem exg_3 (hlim : lim ≤ H.length) (hK : K (.int .i64 0) (exH H 0 50 10 true)) : VCall tbl lim 79 [.int .i64 1, .int .i64 30, .ptr (H.length + 4) 0, .ptr (H.length + 6) 0, .ptr (H.length + 2) 0, .ptr (H.length + 5) 0, .ptr (H.length + 7) 0] (exH H 0 50 10 false) K := by
  refine VCall_fn tbl_at79 rfl ?_
  have l3 : lim ≤ H.length + 3 := by omega
  have l5 : lim ≤ H.length + 5 := by omega
  have l6 : lim ≤ H.length + 6 := by omega
  simp [vf79, ex1, ex2, ex3, ex4, ex5, ex6, ex7, sx3, sx5a, sx6, rd1, vlenS_sl, trL_get, trL_set, lfL_get, lfL_all, lfL_set, wnL_0, wnL_1, gl_set0, gl_set6, gl_get0, gl_get6, gl_len, vstoreH, trL_len, lfL_len, l3, l5, l6]
  refine wLoop_round ?_
  simp [ex1, ex2, ex3, ex4, ex5, ex6, ex7, sx3, sx5a, sx6, rd1, vlenS_sl, trL_get, trL_set, lfL_get, lfL_all, lfL_set, wnL_0, wnL_1, gl_set0, gl_set6, gl_get0, gl_get6, gl_len, vstoreH, trL_len, lfL_len, l3, l5, l6]
  refine dye_Near ?_
  simp (disch := omega) [ex1, ex2, ex3, ex4, ex5, ex6, ex7, sx3, sx5a, sx6, rd1, vlenS_sl, trL_get, trL_set, lfL_get, lfL_all, lfL_set, wnL_0, wnL_1, gl_set0, gl_set6, gl_get0, gl_get6, gl_len, vstoreH, trL_len, lfL_len, l3, l5, l6, near0, wrap_i64]
  refine wLoop_round ?_
  simp (disch := omega) [ex1, ex2, ex3, ex4, ex5, ex6, ex7, sx3, sx5a, sx6, rd1, vlenS_sl, trL_get, trL_set, lfL_get, lfL_all, lfL_set, wnL_0, wnL_1, gl_set0, gl_set6, gl_get0, gl_get6, gl_len, vstoreH, trL_len, lfL_len, l3, l5, l6, near0, wrap_i64]
  refine get_tried hlim ?_
  simp (disch := omega) [ex1, ex2, ex3, ex4, ex5, ex6, ex7, sx3, sx5a, sx6, rd1, vlenS_sl, trL_get, trL_set, lfL_get, lfL_all, lfL_set, wnL_0, wnL_1, gl_set0, gl_set6, gl_get0, gl_get6, gl_len, vstoreH, trL_len, lfL_len, l3, l5, l6, near0, wrap_i64]
  refine wLoop_round ?_
  simp (disch := omega) [ex1, ex2, ex3, ex4, ex5, ex6, ex7, sx3, sx5a, sx6, rd1, vlenS_sl, trL_get, trL_set, lfL_get, lfL_all, lfL_set, wnL_0, wnL_1, gl_set0, gl_set6, gl_get0, gl_get6, gl_len, vstoreH, trL_len, lfL_len, l3, l5, l6, near0, wrap_i64]
  refine get_tried hlim ?_
  simp (disch := omega) [ex1, ex2, ex3, ex4, ex5, ex6, ex7, sx3, sx5a, sx6, rd1, vlenS_sl, trL_get, trL_set, lfL_get, lfL_all, lfL_set, wnL_0, wnL_1, gl_set0, gl_set6, gl_get0, gl_get6, gl_len, vstoreH, trL_len, lfL_len, l3, l5, l6, near0, wrap_i64]
  refine wLoop_round ?_
  simp (disch := omega) [ex1, ex2, ex3, ex4, ex5, ex6, ex7, sx3, sx5a, sx6, rd1, vlenS_sl, trL_get, trL_set, lfL_get, lfL_all, lfL_set, wnL_0, wnL_1, gl_set0, gl_set6, gl_get0, gl_get6, gl_len, vstoreH, trL_len, lfL_len, l3, l5, l6, near0, wrap_i64]
  refine wLoop_round ?_
  simp (disch := omega) [ex1, ex2, ex3, ex4, ex5, ex6, ex7, sx3, sx5a, sx6, rd1, vlenS_sl, trL_get, trL_set, lfL_get, lfL_all, lfL_set, wnL_0, wnL_1, gl_set0, gl_set6, gl_get0, gl_get6, gl_len, vstoreH, trL_len, lfL_len, l3, l5, l6, near0, wrap_i64]
  exact hK
def ex0 (H : Hp) : Hp := H ++ [.row (lfL 60) true, .row wnL true]
theorem lot0 : LstV lotC (ex0 H) (.sl H.length 0 1 4) [⟨60, 3, 0, 0⟩] := by
  have := LstV.sl (c := lotC) (H := ex0 H) (b := H.length) (off := 0) (cs := lfL 60) (own := true) (l := [⟨60, 3, 0, 0⟩]) (by rw [ex0, loAt0]; rfl) (by decide) (by rfl)
  simpa using this
theorem wnt0 : LstV wntC (ex0 H) (.sl (H.length + 1) 0 2 5) [⟨50, 3, 0, 0, 0⟩, ⟨40, 3, 0, 0, 0⟩] := by
  have := LstV.sl (c := wntC) (H := ex0 H) (b := H.length + 1) (off := 0) (cs := wnL) (own := true) (l := [⟨50, 3, 0, 0, 0⟩, ⟨40, 3, 0, 0, 0⟩]) (by rw [ex0, loAt]; rfl) (by decide) (by rfl)
  simpa using this
theorem ex_mks {L : Lo} {H : Hp} : vmks 4 32 (ints (zs 4)) L H (.int .i64 1) (.int .i64 1) = some (.val (.sl H.length 0 1 4) L (H ++ [.row (lfL0) true])) := Eq.trans rfl rfl
theorem spl1 {a b : V} : splice [a] 0 [b] = [b] := Eq.trans rfl rfl
theorem ex_copy (hlim : lim ≤ H.length) {a b : Blk} : vcopy lim 4 (H ++ [.row (lfL 60) true, a, b, .row lfL0 true, .row [.sl (H.length + 3) 0 1 4] true]) (.sl (H.length + 3) 0 1 4) (.sl H.length 0 1 4) =
    some (.int .i64 1, H ++ [.row (lfL 60) true, a, b, .row (lfL 60) true, .row [.sl (H.length + 3) 0 1 4] true]) := by
  have l3 : lim ≤ H.length + 3 := by omega
  simp [vcopy, vcells, loAt, loAt0, vlenS_sl, vstoreH, l3, setAt, lfL, lfL0, splice]
theorem ex_slA : vslA 6 1 (exH H x g0 g1 tr) (.ptr (H.length + 6) 0) none none = some (.sl (H.length + 6) 0 6 1) := vslA_all ex6 (by rw [trL_len]; exact Nat.le_refl _)
theorem ex_clr (hlim : lim ≤ H.length) : vclr lim 1 [.bool false] (exH H x g0 g1 tr) (.sl (H.length + 6) 0 6 1) = some (exH H x g0 g1 false) := by
  have l6 : lim ≤ H.length + 6 := by omega
  have e : splice (trL tr) 0 [.bool false, .bool false, .bool false, .bool false, .bool false, .bool false] = trL false := Eq.trans rfl rfl
  simp [vclr, vstoreH, l6, ex6, e, sx6, trL_len, rowOf]
theorem ex_share (hlim : lim ≤ H.length) (hK : K (.agg (ints (gl 50 10))) (exH H 0 50 10 true)) : VCall tbl lim 59 [.sl H.length 0 1 4, .sl (H.length + 1) 0 2 5] (ex0 H) K := by
  refine VCall_fn tbl_at59 rfl ?_
  have l3 : lim ≤ H.length + 3 := by omega
  have l5 : lim ≤ H.length + 5 := by omega
  have l6 : lim ≤ H.length + 6 := by omega
  have l4 : lim ≤ H.length + 4 := by omega
  have l7 : lim ≤ H.length + 7 := by omega
  simp (disch := omega) [vf59, ex_mks, ex0, List.append_assoc, loAt, loAt0, setAt, l4, vstoreH, spl1, rd1, ex_copy hlim, l7, Nat.add_assoc]
  have hE : H ++ [.row (lfL 60) true, .row wnL true, .row [.sl (H.length + 1) 0 2 5] true, .row (lfL 60) true, .row [.sl (H.length + 3) 0 1 4] true, .row (ints (zs 36)) true, .row [.bool false, .bool false, .bool false, .bool false, .bool false, .bool false] true, .row [.func (.func 79) [] [.ptr (H.length + 4) 0, .ptr (H.length + 6) 0, .ptr (H.length + 2) 0, .ptr (H.length + 5) 0, .ptr (H.length + 7) 0]] true] = exH H 60 0 0 false := Eq.trans rfl rfl
  rw [hE]
  refine wLoop_round ?_
  simp (disch := omega) [ex1, ex2, ex3, ex4, ex5, ex6, ex7, sx3, sx5a, sx6, rd1, vlenS_sl, trL_get, trL_set, lfL_get, lfL_all, lfL_set, wnL_0, wnL_1, gl_set0, gl_set6, gl_get0, gl_get6, gl_len, vstoreH, trL_len, lfL_len, l3, l5, l6, near0, wrap_i64, ex_slA, ex_clr hlim, iz5, splice55, lastO, lastS]
  refine wLoop_round ?_
  simp (disch := omega) [ex1, ex2, ex3, ex4, ex5, ex6, ex7, sx3, sx5a, sx6, rd1, vlenS_sl, trL_get, trL_set, lfL_get, lfL_all, lfL_set, wnL_0, wnL_1, gl_set0, gl_set6, gl_get0, gl_get6, gl_len, vstoreH, trL_len, lfL_len, l3, l5, l6, near0, wrap_i64, ex_slA, ex_clr hlim, iz5, splice55, lastO, lastS]
  refine exg_1 hlim ?_
  simp (disch := omega) [ex1, ex2, ex3, ex4, ex5, ex6, ex7, sx3, sx5a, sx6, rd1, vlenS_sl, trL_get, trL_set, lfL_get, lfL_all, lfL_set, wnL_0, wnL_1, gl_set0, gl_set6, gl_get0, gl_get6, gl_len, vstoreH, trL_len, lfL_len, l3, l5, l6, near0, wrap_i64, ex_slA, ex_clr hlim, iz5, splice55, lastO, lastS]
  refine wLoop_round ?_
  simp (disch := omega) [ex1, ex2, ex3, ex4, ex5, ex6, ex7, sx3, sx5a, sx6, rd1, vlenS_sl, trL_get, trL_set, lfL_get, lfL_all, lfL_set, wnL_0, wnL_1, gl_set0, gl_set6, gl_get0, gl_get6, gl_len, vstoreH, trL_len, lfL_len, l3, l5, l6, near0, wrap_i64, ex_slA, ex_clr hlim, iz5, splice55, lastO, lastS]
  refine wLoop_round ?_
  simp (disch := omega) [ex1, ex2, ex3, ex4, ex5, ex6, ex7, sx3, sx5a, sx6, rd1, vlenS_sl, trL_get, trL_set, lfL_get, lfL_all, lfL_set, wnL_0, wnL_1, gl_set0, gl_set6, gl_get0, gl_get6, gl_len, vstoreH, trL_len, lfL_len, l3, l5, l6, near0, wrap_i64, ex_slA, ex_clr hlim, iz5, splice55, lastO, lastS]
  refine wLoop_round ?_
  simp (disch := omega) [ex1, ex2, ex3, ex4, ex5, ex6, ex7, sx3, sx5a, sx6, rd1, vlenS_sl, trL_get, trL_set, lfL_get, lfL_all, lfL_set, wnL_0, wnL_1, gl_set0, gl_set6, gl_get0, gl_get6, gl_len, vstoreH, trL_len, lfL_len, l3, l5, l6, near0, wrap_i64, ex_slA, ex_clr hlim, iz5, splice55, lastO, lastS]
  refine exg_2 hlim ?_
  simp (disch := omega) [ex1, ex2, ex3, ex4, ex5, ex6, ex7, sx3, sx5a, sx6, rd1, vlenS_sl, trL_get, trL_set, lfL_get, lfL_all, lfL_set, wnL_0, wnL_1, gl_set0, gl_set6, gl_get0, gl_get6, gl_len, vstoreH, trL_len, lfL_len, l3, l5, l6, near0, wrap_i64, ex_slA, ex_clr hlim, iz5, splice55, lastO, lastS]
  refine wLoop_round ?_
  simp (disch := omega) [ex1, ex2, ex3, ex4, ex5, ex6, ex7, sx3, sx5a, sx6, rd1, vlenS_sl, trL_get, trL_set, lfL_get, lfL_all, lfL_set, wnL_0, wnL_1, gl_set0, gl_set6, gl_get0, gl_get6, gl_len, vstoreH, trL_len, lfL_len, l3, l5, l6, near0, wrap_i64, ex_slA, ex_clr hlim, iz5, splice55, lastO, lastS]
  refine exg_3 hlim ?_
  simp (disch := omega) [ex1, ex2, ex3, ex4, ex5, ex6, ex7, sx3, sx5a, sx6, rd1, vlenS_sl, trL_get, trL_set, lfL_get, lfL_all, lfL_set, wnL_0, wnL_1, gl_set0, gl_set6, gl_get0, gl_get6, gl_len, vstoreH, trL_len, lfL_len, l3, l5, l6, near0, wrap_i64, ex_slA, ex_clr hlim, iz5, splice55, lastO, lastS]
  refine wLoop_round ?_
  simp (disch := omega) [ex1, ex2, ex3, ex4, ex5, ex6, ex7, sx3, sx5a, sx6, rd1, vlenS_sl, trL_get, trL_set, lfL_get, lfL_all, lfL_set, wnL_0, wnL_1, gl_set0, gl_set6, gl_get0, gl_get6, gl_len, vstoreH, trL_len, lfL_len, l3, l5, l6, near0, wrap_i64, ex_slA, ex_clr hlim, iz5, splice55, lastO, lastS]
  exact hK
end
end Go.Proofs.Ytkmcdiajcnejiaa.Vm
