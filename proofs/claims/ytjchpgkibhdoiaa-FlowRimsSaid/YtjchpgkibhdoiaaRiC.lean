/- Regions of squares over the machine: what is inside. -/
import Derived.Test.YtjchpgkibhdoiaaRiB
namespace Go.Proofs.Ytjchpgkibhdoiaa.Vm
open Go
set_option maxRecDepth 100000
set_option maxHeartbeats 1000000
set_option linter.unusedSimpArgs false
set_option linter.unusedVariables false
attribute [-simp] List.getD_eq_getElem?_getD
def tnE (w : Nat) (D : List Int) (P : List Ed) (e : Ed) : Int := tnP w D P e.x e.y e.u
def idxS (w : Nat) (D : List Int) (P : List Ed) (s : Pl) : Int := (rndP w D P s.x s.y).tdiv 4
theorem sqS_rnd {w : Nat} {D : List Int} {P : List Ed} {s : Pl} : sqS (tnE w D P) s 4 = rndP w D P s.x s.y := by rw [sqS_4]; rfl
theorem PreF.rnd4 {w q : Nat} {D : List Int} {P : List Ed} (h : PreF w q D P) (x y : Int) : rndP w D P x y = 4 * (rndP w D P x y).tdiv 4 := by
  have a1 : (y + 1) * (w : Int) = y * w + w := by rw [Int.add_mul, Int.one_mul]
  have e0 : dlt w D x y 0 = D.getD (y * w + x + 1).toNat 0 - D.getD (y * w + x).toNat 0 := by simp [dlt]
  have e1 : dlt w D (x + 1) y 1 = D.getD (y * w + x + 1 + w).toNat 0 - D.getD (y * w + x + 1).toNat 0 := by
    simp only [dlt, if_true, ← Int.add_assoc]
  have e2 : dlt w D x (y + 1) 0 = D.getD (y * w + x + 1 + w).toNat 0 - D.getD (y * w + x + w).toNat 0 := by
    simp only [dlt, a1, show ¬ (0 : Int) = 1 by omega, if_false]
    rw [show y * (w : Int) + w + x + 1 = y * w + x + 1 + w by omega, show y * (w : Int) + w + x = y * w + x + w by omega]
  have e3 : dlt w D x y 1 = D.getD (y * w + x + w).toNat 0 - D.getD (y * w + x).toNat 0 := by simp [dlt]
  have hm : rndP w D P x y % 4 = 0 := by
    simp only [rndP, tnP, nrm, e0, e1, e2, e3]
    omega
  obtain ⟨m, hm2⟩ : ∃ m, rndP w D P x y = 4 * m := ⟨rndP w D P x y / 4, by omega⟩
  rw [hm2, Int.mul_tdiv_cancel_left _ (by omega)]
theorem sum_4 {w q : Nat} {D : List Int} {P : List Ed} (h : PreF w q D P) : ∀ {S : List Pl}, (S.map fun s => rndP w D P s.x s.y).sum = 4 * (S.map (idxS w D P)).sum
  | [] => rfl
  | s :: S => by
    have ih := sum_4 h (S := S)
    have := h.rnd4 s.x s.y
    have e : idxS w D P s = (rndP w D P s.x s.y).tdiv 4 := rfl
    simp only [List.map_cons, List.sum_cons, ih, Int.mul_add, e]
    omega
theorem idx_bd {w : Nat} {D : List Int} {P : List Ed} {s : Pl} : -25 ≤ idxS w D P s ∧ idxS w D P s ≤ 25 := by
  have hb := rnd_bd (w := w) (D := D) (P := P) (x := s.x) (y := s.y)
  unfold idxS
  generalize rndP w D P s.x s.y = r at *
  have := Int.mul_tdiv_add_tmod r 4
  have h1 := Int.tmod_lt_of_pos r (b := 4) (by omega)
  have h2 := Int.lt_tmod_of_pos r (b := 4) (by omega)
  omega
def insP (W Q : Int) (D : List Int) (P : List Ed) (S : List Pl) : Int × Int := if regE W Q D P S = 0 then ((S.map (idxS W.toNat D P)).sum, 0) else (0, regE W Q D P S)
section
variable {lim : Nat} {H : Hp} {K : V → Hp → Prop} {v d p sv : V} {D : List Int} {P : List Ed} {S : List Pl} {W Q x y u : Int} {w q : Nat}
theorem flow_Inside (hd : SlV H d D) (hp : EdV H p P) (hs : LstV plC H sv S) (hW : I64 W) (hQ : I64 Q) (hl : D.length ≤ 1000 ∧ P.length ≤ 1000) (hn : S.length ≤ 200) (hlim : lim ≤ H.length)
    (hK : ∀ H', HX H H' → K (.tup [.int .i64 (insP W Q D P S).1, .int .i64 (insP W Q D P S).2]) H') : VCall tbl lim 22 [.agg [.int .i64 W, .int .i64 Q, d, p], sv] H K := by
  refine VCall_fn tbl_at22 rfl ?_
  simp [vf22, hd.stor, hp.stor, hs.stor]
  refine flow_validateSquares hd hp hs hW hQ hl hn hlim fun H1 x1 => ?_
  replace x1 : HX H H1 := x1
  have l1 := x1.len
  simp
  refine cond_ndec (fun h => ?_) fun h => ?_
  · have := hK _ x1
    simp only [insP, h, if_false] at this
    simp
    exact this
  obtain ⟨w, q, rfl, rfl, hf, hval, hsq, hnd⟩ := regE_ok h
  simp only [insP, h, if_true, Int.toNat_natCast] at hK
  have hs1 := hs.mono x1
  simp [hs.len]
  refine wLoop_up S.length (fun i fr L H' => ∃ X, (fr 2 = .lp 0 0 ∧ fr 7 = .int .i64 (tS (idxS w D P) S i) ∧ fr 16 = sv ∧ fr 17 = .int .i64 S.length ∧ fr 18 = .int .i64 i) ∧ L = [.int .i64 w, .int .i64 q, d, p] :: X ∧ H' = H1) ⟨[], by simp [hs.len, tS_zero], rfl, rfl⟩ ?_
  rintro i hi fr L H' ⟨X, ⟨f2, f7, f16, f17, f18⟩, rfl, e0⟩
  have e0 := e0.symm
  subst e0
  simp [f2, f7, f16, f17, f18]
  refine cond_dec (fun ht => ?_) fun hfl => ?_
  · have ht : i < S.length := by omega
    have hat := hs1.at ht
    have hld := fun (L : Lo) => hs1.load (L := L) ht
    have hin := hsq (S.getD i default) (by simp [List.getD_eq_getElem?_getD, ht])
    have hsu := tS_succ (f := idxS w D P) ht
    have hb1 := tS_bd (f := idxS w D P) (l := S) (B := 25) (fun _ _ => idx_bd) (i := i) (by omega)
    have hb2 := idx_bd (w := w) (D := D) (P := P) (s := S.getD i default)
    generalize hse : S.getD i default = s at *
    simp (disch := omega) [f2, f7, f16, f17, f18, hat, hld, plC, Pl.cells, lastO, lastS, hd.stor, hp.stor]
    refine flow_index (hd.mono x1) (hp.mono x1) hf hin ?_
    have hix : (rndP w D P s.x s.y).tdiv 4 = idxS w D P s := rfl
    rw [hix]
    simp (disch := omega) [f2, f7, f16, f17, f18, wrap_i64, hsu]
    omega
  have hi2 : S.length = i := by omega
  subst hi2
  rw [tS_all] at f7
  simp [f7]
  exact hK _ x1
theorem ref_Inside (hd : SlV H d D) (hp : EdV H p P) (hs : LstV plC H sv S) (hW : I64 W) (hQ : I64 Q) (hl : D.length ≤ 1000 ∧ P.length ≤ 1000) (hn : S.length ≤ 200) (hlim : lim ≤ H.length)
    (hK : ∀ H', HX H H' → K (.tup [.int .i64 (insP W Q D P S).1, .int .i64 (insP W Q D P S).2]) H') : VCall tbl lim 23 [.agg [.int .i64 W, .int .i64 Q, d, p], sv] H K := by
  refine VCall_fn tbl_at23 rfl ?_
  simp [vf23, hd.stor, hp.stor, hs.stor]
  refine ref_region hd hp hs hW hQ hl hn hlim fun H1 x1 => ?_
  replace x1 : HX H H1 := x1
  have l1 := x1.len
  simp
  refine cond_ndec (fun h => ?_) fun h => ?_
  · have := hK _ x1
    simp only [insP, h, if_false] at this
    simp
    exact this
  obtain ⟨w, q, rfl, rfl, hf, hval, hsq, hnd⟩ := regE_ok h
  simp only [insP, h, if_true, Int.toNat_natCast] at hK
  have hs1 := hs.mono x1
  simp
  refine wLoop_up S.length (fun i fr L H' => (fr 1 = sv ∧ fr 2 = .lp 0 0 ∧ fr 7 = .int .i64 (tS (fun s => rndP w D P s.x s.y) S i) ∧ fr 8 = .int .i64 i) ∧ L = [[.int .i64 w, .int .i64 q, d, p]] ∧ H' = H1) ⟨by simp [tS_zero], rfl, rfl⟩ ?_
  rintro i hi fr L H' ⟨⟨f1, f2, f7, f8⟩, rfl, e0⟩
  have e0 := e0.symm
  subst e0
  simp [f1, f2, f7, f8, hs.len]
  refine cond_dec (fun ht => ?_) fun hfl => ?_
  · have ht : i < S.length := by omega
    have ad := hs1.at ht
    have fa0 : vfaddr 0 (ept 2 sv i) = some (eptf 2 sv i 0) := hs1.faddr ht
    have fa1 : vfaddr 1 (ept 2 sv i) = some (eptf 2 sv i 1) := hs1.faddr ht
    have ld0 : ∀ L, vload none L H1 (eptf 2 sv i 0) = some (.int .i64 (S.getD i default).x) := fun L => hs1.rd1 ht (by omega)
    have ld1 : ∀ L, vload none L H1 (eptf 2 sv i 1) = some (.int .i64 (S.getD i default).y) := fun L => hs1.rd1 ht (by omega)
    have hin := hsq (S.getD i default) (by simp [List.getD_eq_getElem?_getD, ht])
    have hsu := tS_succ (f := fun s => rndP w D P s.x s.y) ht
    have hb1 := tS_bd (f := fun s => rndP w D P s.x s.y) (l := S) (B := 100) (fun _ _ => rnd_bd) (i := i) (by omega)
    have hb2 := rnd_bd (w := w) (D := D) (P := P) (x := (S.getD i default).x) (y := (S.getD i default).y)
    generalize hse : S.getD i default = s at *
    generalize tS (fun s => rndP w D P s.x s.y) S i = T at *
    simp (disch := omega) [f1, f2, f7, f8, ad, fa0, fa1, ld0, ld1, hd.stor, hp.stor]
    refine ref_round (hd.mono x1) (hp.mono x1) hf hin ?_
    simp (disch := omega) [f1, f2, f7, f8, wrap_i64, hsu]
    omega
  have hi2 : S.length = i := by omega
  subst hi2
  have hb1 := tS_bd (f := fun s => rndP w D P s.x s.y) (l := S) (B := 100) (fun _ _ => rnd_bd) (i := S.length) (by omega)
  rw [tS_all, sum_4 hf] at f7 hb1
  have hdv : (4 * (S.map (idxS w D P)).sum).tdiv 4 = (S.map (idxS w D P)).sum := Int.mul_tdiv_cancel_left _ (by omega)
  simp (disch := omega) [f7, hdv, wrap_i64]
  exact hK _ x1
end
end Go.Proofs.Ytjchpgkibhdoiaa.Vm
