/- Package card over the machine: what a copy lacks; two cards of which one is a part of the other. -/
import Derived.Test.YtlkoedoannjojaaCaI
namespace Go.Proofs.Ytlkoedoannjojaa.Vm
open Go
set_option maxRecDepth 100000
set_option linter.unusedSimpArgs false
set_option linter.unusedVariables false
attribute [-simp] List.getD_eq_getElem?_getD
section
variable {α : Type} {k n : Nat} {c : Cod α k} {H : Hp} {v : V} {l : List α}
theorem OwnT.keepB {H' : Hp} (h : OwnT n c H v l) (hk : ∀ b o m z, v = .sl b o m z → H'[b]? = H[b]?) : OwnT n c H' v l := by
  cases h with
  | nil => exact .nil
  | row h1 h3 => exact .row h1 (by rw [hk _ _ _ _ rfl]; exact h3)
theorem OwnT.below (h : OwnT n c H v l) : ∀ b o n z, v = .sl b o n z → b < H.length := by
  rintro b o n z rfl
  cases h with
  | row h1 h3 => exact (List.getElem?_eq_some_iff.1 h3).1
/-- append of one that was just laid: to a new row -/
theorem OwnT.appendF (h : OwnT n c H v l) {lim bytes : Nat} {x : α} {cs : List V} (hcs : c.cells x = cs) (hn : lim ≤ n ∧ n ≤ H.length) (hb : bytes ≤ 1000) (hl : l.length < 1000000) :
    ∃ v' H', vappend lim k bytes (H ++ [.row cs true]) v (.sl H.length 0 1 k) = some (v', H') ∧ OwnT n c H' v' (l ++ [x]) ∧ (∀ H0, HX H0 H → H0.length ≤ n → HX H0 H') ∧ H'.length = H.length + 2 ∧ (∀ b', b' < H.length → (∀ o z y, v ≠ .sl b' o z y) → H'[b']? = H[b']?) ∧ ∀ b o z y, v' = .sl b o z y → H.length ≤ b := by
  have hh := h
  subst hcs
  obtain ⟨v', H', a1, a2, a3, a4, a5, a6⟩ := h.append (lim := lim) (bytes := bytes) (x := x) rfl hn hb hl
  refine ⟨v', H', a1, a2, a3, a5, a6, ?_⟩
  have hy : LstV c (H ++ [.row (c.cells x) true]) (.sl H.length 0 1 k) [x] := by
    have := LstV.sl (c := c) (l := [x]) (off := 0) (H := H ++ [.row (c.cells x) true]) (b := H.length) (own := true) (cs := c.cells x) List.getElem?_concat_length (by simp [c.len]) (by simp [Cod.all_one]; rw [List.take_of_length_le (by rw [c.len]; omega)])
    simpa using this
  have hb1 : (l.length + 1) * bytes ≤ 1000000 * 1000 := Nat.mul_le_mul (by omega) hb
  have hb2 : 1 * bytes ≤ 1000000 * 1000 := Nat.mul_le_mul (by omega) hb
  rintro b o z y rfl
  cases hh with
  | nil =>
    simp [vappend, hy.cells, hy.len, show bytes ≤ 140737488355328 by omega] at a1
    omega
  | row h1 h2 =>
    rename_i b'
    have hbl := (List.getElem?_eq_some_iff.1 h2).1
    have h2' : (H ++ [Blk.row (c.cells x) true])[b']? = some (.row (c.all l) true) := by rw [List.getElem?_append_left hbl]; exact h2
    simp [vappend, hy.cells, hy.len, h2', Cod.all_len, show lim ≤ b' by omega, show (l.length + 1) * bytes ≤ 140737488355328 by omega, show l.length + 1 < 4611686018427387904 by omega] at a1
    omega
def Apart (u v : V) : Prop := ∀ b o z y b' o' z' y', u = .sl b o z y → v = .sl b' o' z' y' → b ≠ b'
end
/-- a clock -/
def kq (x y z : Int) (q : Int) : Int := tri x y z q.toNat
def missL (c : List En) (x y z : Int) : List En := if valE c = 0 then filE (fun i => !upto (kq x y z) c i) c c.length else []
def rgB (c : List En) (x y z : Int) (q : Nat) : Bool := decide (0 ≤ tri x y z q ∧ tri x y z q ≤ triC c c.length q)
def inK (x y z : Int) (e : En) (q : Nat) : Bool := decide (e.at q ≤ tri x y z q)
def okK (x y z : Int) (F : List En) (i : Nat) : Bool := allN (inK x y z (F.getD i default)) 3
def cutL (c : List En) (x y z : Int) : List En := filE (upto (kq x y z) c) c c.length
def atE (c : List En) (x y z : Int) : Int :=
  if valE c ≠ 0 then valE c else if allN (rgB c x y z) 3 = false then 1 else if allN (okK x y z (cutL c x y z)) (cutL c x y z).length = false then 11 else 0
def atL (c : List En) (x y z : Int) : List En := if atE c x y z = 0 then cutL c x y z else []
theorem at_val {c : List En} {x y z : Int} (h : atE c x y z = 0) : valE c = 0 ∧ valE (cutL c x y z) = 0 ∧ clkL (cutL c x y z) = [.int .i64 x, .int .i64 y, .int .i64 z] := by
  unfold atE at h
  split at h
  · rename_i h1; exact absurd h h1
  rename_i h1
  simp only [ne_eq, Decidable.not_not] at h1
  split at h
  · cases h
  rename_i h2
  split at h
  · cases h
  rename_i h3
  simp only [Bool.not_eq_false] at h2 h3
  have g : ∀ q : Nat, q < 3 → 0 ≤ tri x y z q ∧ tri x y z q ≤ triC c c.length q := fun q hq => by
    have := allN_at h2 hq
    simpa [rgB] using this
  have g0 := g 0 (by omega)
  have g1 := g 1 (by omega)
  have g2 := g 2 (by omega)
  simp [tri, triC] at g0 g1 g2
  have hk : ∀ q : Int, 0 ≤ kq x y z q := fun q => by
    unfold kq tri; split
    · omega
    · split <;> omega
  have hc := cut_val h1 hk (fun q hq => by
    rcases (show q = 0 ∨ q = 1 ∨ q = 2 by omega) with rfl | rfl | rfl <;> simp [kq, tri] <;> omega) (fun i hi hu => by
    obtain ⟨j, j1, j2⟩ := filE_in (c := c) hi hu
    have := allN_at h3 (i := j) j1
    unfold okK cutL at this
    rw [j2] at this
    have a0 := allN_at this (i := 0) (by omega)
    have a1 := allN_at this (i := 1) (by omega)
    have a2 := allN_at this (i := 2) (by omega)
    simp [inK, En.at, tri] at a0 a1 a2
    simp [kq, tri]
    exact ⟨a0, a1, a2⟩)
  refine ⟨h1, hc.1, ?_⟩
  have c0 := hc.2 0 (by omega)
  have c1 := hc.2 1 (by omega)
  have c2 := hc.2 2 (by omega)
  unfold cutL
  rw [clk_ok hc.1]
  unfold cntsL
  rw [c0, c1, c2]
  simp [kq, tri]
theorem miss_len {c : List En} {x y z : Int} (h : valE c = 0) : (missL c x y z).length + (cutL c x y z).length = c.length := by
  have := @filE_not (upto (kq x y z) c) c c.length
  unfold missL cutL
  rw [if_pos h]
  omega
section
variable {lim : Nat} {H : Hp} {K : V → Hp → Prop} {v w : V} {c l : List En} {e f : En} {s : ByteArray} {n x y z : Int}
theorem tri_heap {b : Nat} {own : Bool} {L : Lo} (hb : H[b]? = some (.row [.int .i64 x, .int .i64 y, .int .i64 z] own)) {q : Nat} (hq : q < 3) : vload none L H (.ptr b q) = some (.int .i64 (tri x y z q)) := by
  rw [vload_ptr hb]; exact tri_rd hq
theorem card_Missing_1 (hf : 0 ≤ f.p ∧ f.p ≤ 2) {b : Nat} {own : Bool} (hb : H[b]? = some (.row [.int .i64 x, .int .i64 y, .int .i64 z] own)) (hK : K (.bool (!decide (f.s ≤ kq x y z f.p))) H) : VCall tbl lim 63 [.agg f.cells, .ptr b 0] H K := by
  refine VCall_fn tbl_at63 rfl ?_
  have hq : f.p.toNat < 3 := by omega
  have r1 : rd none [.int .i64 x, .int .i64 y, .int .i64 z] f.p.toNat = some (.int .i64 (tri x y z f.p.toNat)) := tri_rd hq
  have e1 : decide (tri x y z f.p.toNat < f.s) = !decide (f.s ≤ kq x y z f.p) := by
    unfold kq
    by_cases h : tri x y z f.p.toNat < f.s
    · rw [decide_eq_true h, decide_eq_false (by omega)]; rfl
    · rw [decide_eq_false h, decide_eq_true (by omega)]; rfl
  simp (disch := omega) [vf63, En.cells, hb, r1, e1]
  exact hK
theorem card_At_1 (hf : 0 ≤ f.p ∧ f.p ≤ 2) {b : Nat} {own : Bool} (hb : H[b]? = some (.row [.int .i64 x, .int .i64 y, .int .i64 z] own)) (hK : K (.bool (decide (f.s ≤ kq x y z f.p))) H) : VCall tbl lim 64 [.agg f.cells, .ptr b 0] H K := by
  refine VCall_fn tbl_at64 rfl ?_
  have hq : f.p.toNat < 3 := by omega
  have r1 : rd none [.int .i64 x, .int .i64 y, .int .i64 z] f.p.toNat = some (.int .i64 (tri x y z f.p.toNat)) := tri_rd hq
  simp (disch := omega) [vf64, En.cells, hb, r1]
  exact hK
theorem card_Missing (hc : LstV enC H v c) (hsh : shortC c) (hlim : lim ≤ H.length) (hK : ∀ H' w, HX H H' → LstV enC H' w (missL c x y z) → K (.tup [w, .int .i64 (valE c)]) H') : VCall tbl lim 35 [v, .agg [.int .i64 x, .int .i64 y, .int .i64 z]] H K := by
  refine VCall_fn tbl_at35 rfl ?_
  have xb : HX H (H ++ [.row [.int .i64 x, .int .i64 y, .int .i64 z] true]) := HX.push
  have hb : (H ++ [.row [.int .i64 x, .int .i64 y, .int .i64 z] true])[H.length]? = some (Blk.row [.int .i64 x, .int .i64 y, .int .i64 z] true) := List.getElem?_concat_length
  have lb := xb.len
  simp [vf35, hc.stor]
  refine card_Validate (hc.mono xb) hsh fun H1 x1 => ?_
  have hc1 := (hc.mono xb).mono x1
  have l1 := x1.len
  simp
  by_cases h : valE c = 0
  · simp [h, hc.stor]
    refine card_only hc1 (by have := valE_small h; omega) (by omega) (fun i => !upto (kq x y z) c i) (fun i hi H2 K2 x2 hK2 => ?_) fun H2 w x2 o2 => ?_
    · exact card_Missing_1 (val_pl h hi) (x2.get (x1.get hb)) hK2
    · have e1 : missL c x y z = filE (fun i => !upto (kq x y z) c i) c c.length := if_pos h
      rw [← e1] at o2
      simp [o2.lst.stor]
      rw [h] at hK
      exact hK _ _ (xb.trans (x1.trans x2)) o2.lst
  · have e1 : missL c x y z = [] := if_neg h
    simp [eq_false h]
    exact hK _ _ (xb.trans x1) (by rw [e1]; exact .nil)
theorem ref_Missing (hc : LstV enC H v c) (hsh : shortC c) (hlim : lim ≤ H.length) (hK : ∀ H' w, HX H H' → LstV enC H' w (missL c x y z) → K (.tup [w, .int .i64 (valE c)]) H') : VCall tbl lim 36 [v, .agg [.int .i64 x, .int .i64 y, .int .i64 z]] H K := by
  refine VCall_fn tbl_at36 rfl ?_
  simp [vf36, hc.stor]
  refine ref_Validate hc hsh ?_
  simp
  by_cases h : valE c = 0
  · have e1 : missL c x y z = filE (fun i => !upto (kq x y z) c i) c c.length := if_pos h
    rw [h] at hK
    have hl := valE_small h
    simp [h]
    refine wLoop_up c.length (fun i fr L H' => (fr 0 = v ∧ fr 3 = .lp 0 0 ∧ fr 8 = .int .i64 i) ∧ L = [[.int .i64 x, .int .i64 y, .int .i64 z]] ∧ (∃ u, fr 7 = u ∧ OwnT H.length enC H' u (filE (fun i => !upto (kq x y z) c i) c i)) ∧ HX H H') ⟨by simp, rfl, ⟨.snil, by simp, .nil⟩, HX.refl⟩ ?_
    rintro i hi fr L H' ⟨⟨f0, f3, f8⟩, rfl, ⟨u, f7, hu⟩, hx'⟩
    simp [f0, f3, f8, hc.len]
    refine cond_dec (fun ht => ?_) fun hfl => ?_
    · have ht : i < c.length := by omega
      have hc' := hc.mono hx'
      have hxl := hx'.len
      have hfl := @filE_len (fun i => !upto (kq x y z) c i) c i
      have hpi := val_pl h ht
      have r1 : rd none [.int .i64 x, .int .i64 y, .int .i64 z] (c.getD i default).p.toNat = some (.int .i64 (tri x y z (c.getD i default).p.toNat)) := tri_rd (by omega)
      obtain ⟨v', H3, b1, b2, b3, b4, b5, b6⟩ := hu.append (lim := lim) (bytes := 56) (x := c.getD i default) (cs := [.int .i64 (c.getD i default).p, .int .i64 (c.getD i default).s, .int .i64 (c.getD i default).a, .int .i64 (c.getD i default).b, .int .i64 (c.getD i default).c, .str (c.getD i default).t]) rfl ⟨hlim, hxl⟩ (by omega) (by omega)
      simp (disch := omega) [f0, f3, f8, hc'.at ht, hc'.faddr ht, en_get hc' ht, r1]
      refine cond_dec (fun hs => ?_) fun hs => ?_
      · have hg : upto (kq x y z) c i = false := decide_eq_false (by unfold kq; omega)
        simp (disch := omega) [f0, f3, f8, f7, hc'.at ht, en_load hc', vbslice_some, b1, wrap_i64, filE, hg]
        exact ⟨by omega, b2, b3 _ hx' (Nat.le_refl _)⟩
      · have hg : upto (kq x y z) c i = true := decide_eq_true (by unfold kq; omega)
        simp (disch := omega) [f0, f3, f8, f7, wrap_i64, filE, hg]
        exact ⟨by omega, hu, hx'⟩
    have : i = c.length := by omega
    subst this
    rw [← e1] at hu
    simp [f7, hu.lst.stor]
    exact hK _ _ hx' hu.lst
  · have e1 : missL c x y z = [] := if_neg h
    simp [eq_false h]
    exact hK _ _ HX.refl (by rw [e1]; exact .nil)
end
end Go.Proofs.Ytlkoedoannjojaa.Vm
