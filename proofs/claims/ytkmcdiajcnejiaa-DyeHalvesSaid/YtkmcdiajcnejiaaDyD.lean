/- Package dye over the machine: Best, known, DyeShades, DyeDiffers, DyeNears. -/
import Derived.Test.YtkmcdiajcnejiaaDyC
namespace Go.Proofs.Ytkmcdiajcnejiaa.Vm
open Go
set_option maxRecDepth 100000
set_option linter.unusedSimpArgs false
set_option linter.unusedVariables false
attribute [-simp] List.getD_eq_getElem?_getD

structure Gft where
  w : Int
  l : Int
  n : Int
  deriving Inhabited
def Gft.cells (e : Gft) : List V := [.int .i64 e.w, .int .i64 e.l, .int .i64 e.n]
def gftC : Cod Gft 3 := ⟨Gft.cells, fun _ => rfl⟩
def gfR (g : List Int) (w : Nat) : Nat → List Gft
  | 0 => []
  | j + 1 => gfR g w j ++ if 0 < g.getD (6 * w + j) 0 then [⟨w, j, g.getD (6 * w + j) 0⟩] else []
def gfA (g : List Int) : Nat → List Gft
  | 0 => []
  | w + 1 => gfA g w ++ gfR g w 6
def smR (g : List Int) (w : Nat) : Nat → Int
  | 0 => 0
  | j + 1 => smR g w j + if 0 < g.getD (6 * w + j) 0 then g.getD (6 * w + j) 0 else 0
def smA (g : List Int) : Nat → Int
  | 0 => 0
  | w + 1 => smA g w + smR g w 6
theorem gfR_len {g : List Int} {w : Nat} : ∀ j, (gfR g w j).length ≤ j
  | 0 => by simp [gfR]
  | j + 1 => by
    have := gfR_len (g := g) (w := w) j
    simp only [gfR, List.length_append]; split <;> simp <;> omega
theorem gfA_len {g : List Int} : ∀ w, (gfA g w).length ≤ 6 * w
  | 0 => by simp [gfA]
  | w + 1 => by
    have := gfA_len (g := g) w
    have := gfR_len (g := g) (w := w) 6
    simp only [gfA, List.length_append]; omega
theorem smR_bd {g : List Int} (hg : ∀ i, 0 ≤ g.getD i 0 ∧ g.getD i 0 ≤ 1000000) {w : Nat} : ∀ j : Nat, 0 ≤ smR g w j ∧ smR g w j ≤ 1000000 * (j : Int)
  | 0 => by simp [smR]
  | j + 1 => by
    have := smR_bd hg (w := w) j
    have := hg (6 * w + j)
    simp only [smR]; split <;> omega
theorem smA_bd {g : List Int} (hg : ∀ i, 0 ≤ g.getD i 0 ∧ g.getD i 0 ≤ 1000000) : ∀ w : Nat, 0 ≤ smA g w ∧ smA g w ≤ 6000000 * (w : Int)
  | 0 => by simp [smA]
  | w + 1 => by
    have := smA_bd hg w
    have := smR_bd hg (w := w) 6
    simp only [smA]; omega
theorem gRow {g : List Int} (hl : g.length = 36) {w : Nat} (hw : w < 6) : vidxA 6 6 (some 6) (.agg (ints g)) (.int .i64 (w : Int)) = some (.agg (ints ((g.drop (6 * w)).take 6))) := by
  rw [vidxA_in (by omega)]
  simp only [vfield, rd, ints_length, Int.toNat_natCast]
  rw [if_pos (by omega)]
  simp [ints, List.map_take, List.map_drop, Nat.mul_comm]
theorem gEl {g : List Int} (hl : g.length = 36) {w j : Nat} (hw : w < 6) (hj : j < 6) : vidxA 6 1 none (.agg (ints ((g.drop (6 * w)).take 6))) (.int .i64 (j : Int)) = some (.int .i64 (g.getD (6 * w + j) 0)) := by
  rw [vidxA_in (by omega)]
  have hlen : ((g.drop (6 * w)).take 6).length = 6 := by simp; omega
  simp only [vfield, Int.toNat_natCast, Nat.mul_one]
  rw [rd_ints (by omega)]
  congr 2
  simp only [List.getD_eq_getElem?_getD]
  rw [List.getElem?_take_of_lt hj, List.getElem?_drop]

section
variable {lim : Nat} {H : Hp} {K : V → Hp → Prop} {av bv : V} {A : List Lot} {B : List Wnt}
theorem dye_BestOf (ha : LstV lotC H av A) (hb : LstV wntC H bv B) (hlim : lim ≤ H.length) (hv : valP A B = 0) {G : List Int → Prop}
    (hsh : ∀ K' : V → Hp → Prop, (∀ H' g, HX H H' → g.length = 36 → (∀ i, 0 ≤ g.getD i 0 ∧ g.getD i 0 ≤ 1000000) → G g → K' (.agg (ints g)) H') → VCall tbl lim 59 [av, bv] H K')
    (hK : ∀ H' v g, HX H H' → OwnT H.length gftC H' v (gfA g 6) → G g → K (.tup [v, .int .i64 (smA g 6), .int .i64 0]) H') : VCall tbl lim 28 [av, bv] H K := by
  refine VCall_fn tbl_at28 rfl ?_
  simp [vf28, ha.stor, hb.stor]
  refine dye_Validate ha hb ?_
  simp [hv, ha.stor, hb.stor]
  refine hsh _ fun H1 g x1 hl hg hG => ?_
  replace x1 : HX H H1 := x1
  have l1 := x1.len
  simp
  refine wLoop_up 6 (fun w fr L H' => ∃ v X, (fr 8 = v ∧ fr 9 = .int .i64 (smA g w) ∧ fr 22 = .agg (ints g) ∧ fr 23 = .int .i64 w) ∧ L = X ∧ HX H H' ∧ OwnT H.length gftC H' v (gfA g w)) ⟨.snil, _, by simp [smA], rfl, x1, .nil⟩ ?_
  rintro w hw fr L H2 ⟨v, X, ⟨f8, f9, f22, f23⟩, rfl, hx, hv2⟩
  simp [f8, f9, f22, f23]
  refine cond_dec (fun ht => ?_) fun hfl => ?_
  · have ht : w < 6 := by omega
    have hrl : ((g.drop (6 * w)).take 6).length = 6 := by simp; omega
    have e1 : splice (ints (zs 6)) 0 (ints ((g.drop (6 * w)).take 6)) = ints ((g.drop (6 * w)).take 6) := splice_ints_all (by rw [hrl]; simp)
    have e2 : rd (some 6) (ints ((g.drop (6 * w)).take 6)) 0 = some (.agg (ints ((g.drop (6 * w)).take 6))) := rd_ints_all hrl.symm
    have e3 := gRow hl ht
    simp [f8, f9, f22, f23, e3, lastO, lastS, e1, e2, hrl]
    refine wLoop_up 6 (fun j fr L H' => ∃ v X, (fr 8 = v ∧ fr 9 = .int .i64 (smA g w + smR g w j) ∧ fr 10 = .int .i64 w ∧ fr 22 = .agg (ints g) ∧ fr 23 = .int .i64 w ∧ fr 27 = .agg (ints ((g.drop (6 * w)).take 6)) ∧ fr 28 = .int .i64 j) ∧ L = X ∧ HX H H' ∧ OwnT H.length gftC H' v (gfA g w ++ gfR g w j)) ⟨v, _, by simp [f8, f9, f22, f23, smR], rfl, hx, by simpa [gfR] using hv2⟩ ?_
    clear f8 f9 f22 f23 hx hv2
    rintro j hj fr L H2 ⟨v, X, ⟨f8, f9, f10, f22, f23, f27, f28⟩, rfl, hx, hv2⟩
    simp [f8, f9, f10, f22, f23, f27, f28]
    have b1 := smA_bd hg w
    have b2 := smR_bd hg (w := w) j
    refine cond_dec (fun ht2 => ?_) fun hfl2 => ?_
    · have ht2 : j < 6 := by omega
      have e4 := gEl hl ht ht2
      have b3 := hg (6 * w + j)
      simp [f8, f9, f10, f22, f23, f27, f28, e4]
      refine cond_dec (fun hp => ?_) fun hp => ?_
      · have hll : (gfA g w ++ gfR g w j).length ≤ 1000 := by
          have := gfA_len (g := g) w
          have := gfR_len (g := g) (w := w) j
          simp only [List.length_append]; omega
        obtain ⟨v', H3, a1, a2, a3, a4, a5, a6⟩ := hv2.append (lim := lim) (bytes := 24) (x := ⟨w, j, g.getD (6 * w + j) 0⟩) (cs := [.int .i64 w, .int .i64 j, .int .i64 (g.getD (6 * w + j) 0)]) rfl ⟨hlim, hx.len⟩ (by omega) (by omega)
        simp (disch := omega) [f8, f9, f10, f22, f23, f27, f28, a1, wrap_i64]
        refine ⟨by omega, _, ⟨rfl, ?_⟩, a3 _ hx (Nat.le_refl _), ?_⟩
        · simp only [smR, hp, if_true]; omega
        · simp only [gfR, hp, if_true]
          rw [← List.append_assoc]; exact a2
      · simp (disch := omega) [f8, f9, f10, f22, f23, f27, f28, wrap_i64]
        refine ⟨by omega, _, ⟨rfl, ?_⟩, hx, ?_⟩
        · simp only [smR, hp, if_false]; omega
        · simp only [gfR, hp, if_false, List.append_nil]; exact hv2
    · have : j = 6 := by omega
      subst this
      simp (disch := omega) [f8, f9, f10, f22, f23, f27, f28, wrap_i64]
      refine ⟨by omega, _, ⟨rfl, ?_⟩, hx, ?_⟩
      · simp only [smA]
      · simpa [gfA] using hv2
  · have : w = 6 := by omega
    subst this
    simp [f8, f9, f22, f23, hv2.lst.stor]
    exact hK _ _ _ hx hv2 hG
theorem HX.app {X : Hp} : HX H (H ++ X) := ⟨X, rfl⟩
theorem ex_hx {x g0 g1 : Int} {tr : Bool} : HX (ex0 H) (exH H x g0 g1 tr) := ⟨(exR H.length x g0 g1 tr).drop 2, by simp [ex0, exH, exR]⟩
theorem law_known (hlim : lim ≤ H.length) (hK : ∀ H', K (.bool true) H') : VCall tbl lim 13 [] H K := by
  refine VCall_fn tbl_at13 rfl ?_
  simp [vf13]
  refine dye_Baths hlim fun H1 x1 => ?_
  replace x1 : HX H H1 := x1
  have l1 := x1.len
  have e1 : pathO 2 0 0 5 3 = some [⟨4, 0, 1⟩, ⟨6, 0, 2⟩, ⟨5, 3, 2⟩] := by decide
  have e2 : pathL 2 0 0 5 3 = [⟨4, 0, 1⟩, ⟨6, 0, 2⟩, ⟨5, 3, 2⟩] := by decide
  have e3 : pathE 2 0 0 5 3 = 0 := by decide
  have lf : splice (ints (zs 4)) 0 [.int .i64 60, .int .i64 3, .int .i64 0, .int .i64 0] = lfL 60 := Eq.trans rfl rfl
  simp (disch := omega) [e1, e2, e3, splice, iz4, iz5, zs]
  show VCall tbl lim _ [_, _] (ex0 H1) _
  have e4 : (ex0 H1).length = H1.length + 2 := by simp [ex0]
  refine dye_BestOf lot0 wnt0 (G := fun g => g = gl 50 10) (by omega) (by decide) (fun K' hk => ?_) fun H2 v g x2 o2 hg => ?_
  · refine ex_share (by omega) (hk _ _ ex_hx (by decide) (fun i => ?_) rfl)
    have h36 : ∀ i, i < 36 → 0 ≤ (gl 50 10).getD i 0 ∧ (gl 50 10).getD i 0 ≤ 1000000 := by decide
    by_cases h : i < 36
    · exact h36 i h
    · rw [getD_big (by rw [gl_len]; omega)]; omega
  · subst hg
    have e5 : smA (gl 50 10) 6 = 60 := by decide
    simp [e5, o2.lst.stor]
    exact hK _
theorem differ_sym {l t b l' t' b' : Int} : differP l t b l' t' b' = differP l' t' b' l t b := by
  simp only [differP, And.comm (a := shdB l t b = true)]
  split
  · congr 1
    unfold difP absP; omega
  · rfl
end
end Go.Proofs.Ytkmcdiajcnejiaa.Vm
