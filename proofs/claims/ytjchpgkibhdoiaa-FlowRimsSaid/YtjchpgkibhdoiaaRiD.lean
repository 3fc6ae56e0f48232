/- Regions of squares over the machine: the rim. -/
import Derived.Test.YtjchpgkibhdoiaaRiC
namespace Go.Proofs.Ytjchpgkibhdoiaa.Vm
open Go
set_option maxRecDepth 100000
set_option maxHeartbeats 1000000
set_option linter.unusedSimpArgs false
set_option linter.unusedVariables false
attribute [-simp] List.getD_eq_getElem?_getD
theorem useS_bd {e : Ed} {s : Pl} : ∀ k : Nat, 0 ≤ useS e s k ∧ useS e s k ≤ k
  | 0 => by simp [useS]
  | k + 1 => by
    have := useS_bd (e := e) (s := s) k
    simp only [useS]; split <;> omega
theorem useN_bd {e : Ed} : ∀ {S : List Pl}, 0 ≤ useN S e ∧ useN S e ≤ 4 * (S.length : Int)
  | [] => by simp [useN]
  | s :: S => by
    have a := useN_bd (e := e) (S := S)
    have b := useS_bd (e := e) (s := s) 4
    unfold useN at *
    simp only [List.map_cons, List.sum_cons, List.length_cons]; omega
theorem useN_succ {S : List Pl} {i : Nat} (h : i < S.length) {e : Ed} : useN (S.take (i + 1)) e = useN (S.take i) e + useS e (S.getD i default) 4 := by
  unfold useN
  rw [take_mem h]; simp
theorem sd_eb {w q : Nat} {s : Pl} (h : isSB w q s.x s.y = true) : ∀ k : Nat, k < 4 → isEB w q (sdE s k).x (sdE s k).y (sdE s k).u = true := by
  obtain ⟨e0, e1, e2, e3⟩ := isSB_ed h
  intro k hk
  rcases (show k = 0 ∨ k = 1 ∨ k = 2 ∨ k = 3 by omega) with rfl | rfl | rfl | rfl
  · exact e0
  · exact e1
  · exact e2
  · exact e3
def rimC (s : Pl) : List V := [.int .i64 s.x, .int .i64 s.y, .int .i64 0, .int .i64 1, .int .i64 (s.x + 1), .int .i64 s.y, .int .i64 1, .int .i64 1, .int .i64 s.x, .int .i64 (s.y + 1), .int .i64 0, .int .i64 (-1), .int .i64 s.x, .int .i64 s.y, .int .i64 1, .int .i64 (-1)]
theorem rimC_at {s : Pl} {k : Nat} (hk : k < 4) : vidxA 4 4 (some 4) (.agg (rimC s)) (.int .i64 (k : Int)) = some (.agg [.int .i64 (sdE s k).x, .int .i64 (sdE s k).y, .int .i64 (sdE s k).u, .int .i64 (sdS k)]) := by
  rcases (show k = 0 ∨ k = 1 ∨ k = 2 ∨ k = 3 by omega) with rfl | rfl | rfl | rfl <;> simp [vidxA, vint, vfield, rd, rimC, sdE, sdS]
def vI (n : Int) : V := .int .i64 n
def psi (w : Nat) (D : List Int) (P : List Ed) (S : List Pl) (e : Ed) : Int := if useN S e = 1 then tnE w D P e else 0
theorem psi_bd {w : Nat} {D : List Int} {P : List Ed} {S : List Pl} {e : Ed} : -4 ≤ psi w D P S e ∧ psi w D P S e ≤ 4 := by
  have := tnP_bd (w := w) (D := D) (P := P) (x := e.x) (y := e.y) (u := e.u)
  unfold psi tnE; split <;> omega
theorem sdS_1 (k : Nat) : sdS k = 1 ∨ sdS k = -1 := by unfold sdS; split <;> simp
theorem sqS_bd {φ : Ed → Int} (h : ∀ e, -4 ≤ φ e ∧ φ e ≤ 4) {s : Pl} : ∀ k : Nat, -(4 * (k : Int)) ≤ sqS φ s k ∧ sqS φ s k ≤ 4 * k
  | 0 => by simp [sqS]
  | k + 1 => by
    have := sqS_bd h (s := s) k
    have := h (sdE s k)
    simp only [sqS]
    rcases sdS_1 k with h1 | h1 <;> rw [h1] <;> omega
def rimP (W Q : Int) (D : List Int) (P : List Ed) (S : List Pl) : Int × Int := if regE W Q D P S = 0 then (4 * (S.map (idxS W.toNat D P)).sum, 0) else (0, regE W Q D P S)
section
variable {lim : Nat} {H : Hp} {K : V → Hp → Prop} {v d p sv : V} {D : List Int} {P : List Ed} {S : List Pl} {W Q x y u : Int} {w q : Nat}
theorem flow_Rim (hd : SlV H d D) (hp : EdV H p P) (hs : LstV plC H sv S) (hW : I64 W) (hQ : I64 Q) (hl : D.length ≤ 1000 ∧ P.length ≤ 1000) (hn : S.length ≤ 200) (hlim : lim ≤ H.length)
    (hK : ∀ H', HX H H' → K (.tup [.int .i64 (rimP W Q D P S).1, .int .i64 (rimP W Q D P S).2]) H') : VCall tbl lim 24 [.agg [.int .i64 W, .int .i64 Q, d, p], sv] H K := by
  refine VCall_fn tbl_at24 rfl ?_
  simp [vf24, hd.stor, hp.stor, hs.stor]
  refine flow_validateSquares hd hp hs hW hQ hl hn hlim fun H1 x1 => ?_
  replace x1 : HX H H1 := x1
  have l1 := x1.len
  simp
  refine cond_ndec (fun h => ?_) fun h => ?_
  · have := hK _ x1
    simp only [rimP, h, if_false] at this
    simp
    exact this
  obtain ⟨w, q, rfl, rfl, hf, hval, hsq, hnd⟩ := regE_ok h
  have hfin : (S.map fun s => sqS (psi w D P S) s 4).sum = 4 * (S.map (idxS w D P)).sum := by
    have hpsi : psi w D P S = fun e => if useN S e = 1 then tnE w D P e else 0 := rfl
    have e1 := (rim_in (c := tnE w D P) hsq hnd).2
    rw [← hpsi] at e1
    have e2 : (S.map fun s => sqS (tnE w D P) s 4).sum = (S.map fun s => rndP w D P s.x s.y).sum := sum_congrL fun s _ => sqS_rnd
    exact e1.trans (e2.trans (sum_4 hf))
  simp only [rimP, h, if_true, Int.toNat_natCast, ← hfin] at hK
  have hs1 := hs.mono x1
  have hw1 := hf.w1
  have hq1 := hf.q1
  simp [hs.len]
  refine wLoop_up S.length (fun i fr L H' => ∃ X l, (fr 1 = sv ∧ fr 2 = .lp 0 0 ∧ fr 7 = .mp H1.length ∧ fr 24 = sv ∧ fr 25 = .int .i64 S.length ∧ fr 26 = .int .i64 i) ∧ L = [.int .i64 w, .int .i64 q, d, p] :: X ∧ H' = H1 ++ [.map (mE kI3 vI l)] ∧ ∀ a : Int × Int × Int, (look a l).getD 0 = useN (S.take i) ⟨a.1, a.2.1, a.2.2⟩) ⟨[], [], by simp [hs.len], rfl, by simp [mE], by simp [look, lkI, useN]⟩ ?_
  rintro i hi fr L H2 ⟨X, l, ⟨f1, f2, f7, f24, f25, f26⟩, rfl, e2, hlk⟩
  simp [f1, f2, f7, f24, f25, f26]
  refine cond_dec (fun ht => ?_) fun hfl => ?_
  · have ht : i < S.length := by omega
    have x2 : HX H1 H2 := by rw [e2]; exact .push
    have hs2 := hs1.mono x2
    have hat := hs2.at ht
    have hld := fun (L : Lo) => hs2.load (L := L) ht
    have hin := hsq (S.getD i default) (by simp [List.getD_eq_getElem?_getD, ht])
    have hus := fun e => useN_succ (e := e) ht
    generalize hse : S.getD i default = s at *
    have hsb := hin
    simp only [isSB, decide_eq_true_eq] at hsb
    simp (disch := omega) [f1, f2, f7, f24, f25, f26, hat, hld, plC, Pl.cells, lastO, lastS]
    refine flow_rim (by omega) (by omega) ?_
    have hrc : [V.int .i64 s.x, .int .i64 s.y, .int .i64 0, .int .i64 1, .int .i64 (s.x + 1), .int .i64 s.y, .int .i64 1, .int .i64 1, .int .i64 s.x, .int .i64 (s.y + 1), .int .i64 0, .int .i64 (-1), .int .i64 s.x, .int .i64 s.y, .int .i64 1, .int .i64 (-1)] = rimC s := rfl
    rw [hrc]
    simp
    refine wLoop_up 4 (fun k fr L H' => ∃ X l, (fr 1 = sv ∧ fr 2 = .lp 0 0 ∧ fr 7 = .mp H1.length ∧ fr 24 = sv ∧ fr 25 = .int .i64 S.length ∧ fr 26 = .int .i64 i ∧ fr 34 = .agg (rimC s) ∧ fr 35 = .int .i64 k) ∧ L = [.int .i64 w, .int .i64 q, d, p] :: X ∧ H' = H1 ++ [.map (mE kI3 vI l)] ∧ ∀ a : Int × Int × Int, (look a l).getD 0 = useN (S.take i) ⟨a.1, a.2.1, a.2.2⟩ + useS ⟨a.1, a.2.1, a.2.2⟩ s k) ⟨_, l, by simp [f1, f2, f7, f24, f25, f26], rfl, e2, by simpa [useS] using hlk⟩ ?_
    clear f1 f2 f7 f24 f25 f26 e2 hlk l X hs2 hat hld x2
    rintro k hk fr L H3 ⟨X, l, ⟨f1, f2, f7, f24, f25, f26, f34, f35⟩, rfl, e3, hlk⟩
    simp [f1, f2, f7, f24, f25, f26, f34, f35]
    refine cond_dec (fun ht2 => ?_) fun hfl2 => ?_
    · have ht2 : k < 4 := by omega
      have hix := rimC_at (s := s) ht2
      have hub : ∀ e, useS e s (k + 1) = useS e s k + if sdE s k = e then 1 else 0 := fun e => rfl
      have hb1 := useN_bd (e := sdE s k) (S := S.take i)
      have hb2 := useS_bd (e := sdE s k) (s := s) k
      have htl : (S.take i).length ≤ 200 := by simp; omega
      generalize hed : sdE s k = e at *
      generalize sdS k = sg at *
      have hb : H3[H1.length]? = some (.map (mE kI3 vI l)) := by rw [e3]; simp
      have hlt : H1.length < H3.length := by rw [e3]; simp
      have hn := hlk (e.x, e.y, e.u)
      simp only at hn
      have hee : (⟨e.x, e.y, e.u⟩ : Ed) = e := rfl
      rw [hee] at hn
      have hg : vmget true [.int .i64, .int .i64, .int .i64] false (.int .i64 0) H3 (.mp H1.length) (.agg [.int .i64 e.x, .int .i64 e.y, .int .i64 e.u]) = some (.int .i64 ((look (e.x, e.y, e.u) l).getD 0)) := vmgetE (K := kI3) (vc := vI) (z := 0) (a := (e.x, e.y, e.u)) hb
      have hme : vment lim true [.int .i64, .int .i64, .int .i64] (.int .i64 0) H3 (.mp H1.length) (.agg [.int .i64 e.x, .int .i64 e.y, .int .i64 e.u]) = some (.tup [.int .i64 ((look (e.x, e.y, e.u) l).getD 0), .int .i64 (entI (e.x, e.y, e.u) l)], H3.set H1.length (.map (mE kI3 vI (putA (e.x, e.y, e.u) ((look (e.x, e.y, e.u) l).getD 0) l)))) := vmentE (K := kI3) (vc := vI) (z := 0) (a := (e.x, e.y, e.u)) hb (by omega) rfl
      have hms : vmest lim (H3.set H1.length (.map (mE kI3 vI (putA (e.x, e.y, e.u) ((look (e.x, e.y, e.u) l).getD 0) l)))) (.mp H1.length) (.int .i64 (entI (e.x, e.y, e.u) l)) (.int .i64 ((look (e.x, e.y, e.u) l).getD 0 + 1)) = some (H3.set H1.length (.map (mE kI3 vI (putA (e.x, e.y, e.u) ((look (e.x, e.y, e.u) l).getD 0 + 1) l)))) := vmestE (K := kI3) (vc := vI) (u := (look (e.x, e.y, e.u) l).getD 0 + 1) (a := (e.x, e.y, e.u)) hlt (by omega) rfl
      have hset : H3.set H1.length (.map (mE kI3 vI (putA (e.x, e.y, e.u) ((look (e.x, e.y, e.u) l).getD 0 + 1) l))) = H1 ++ [.map (mE kI3 vI (putA (e.x, e.y, e.u) ((look (e.x, e.y, e.u) l).getD 0 + 1) l))] := by rw [e3]; simp
      rw [hset] at hms
      generalize hnn : (look (e.x, e.y, e.u) l).getD 0 = n at *
      generalize H3.set H1.length (.map (mE kI3 vI (putA (e.x, e.y, e.u) n l))) = H4 at *
      simp (disch := omega) [f1, f2, f7, f24, f25, f26, f34, f35, hix, lastO, lastS, z4, hg, hme, hms, wrap_i64]
      refine ⟨by omega, _, rfl, fun a b c => ?_⟩
      rw [look_put, hub]
      by_cases c0 : ((a, b, c) : Int × Int × Int) = (e.x, e.y, e.u)
      · rw [if_pos c0]
        simp only [Prod.mk.injEq] at c0
        obtain ⟨rfl, rfl, rfl⟩ := c0
        have : e = ⟨e.x, e.y, e.u⟩ := rfl
        rw [if_pos this, hee, Option.getD_some]; omega
      · rw [if_neg c0]
        have h9 := hlk (a, b, c)
        simp only at h9
        have : ¬ e = ⟨a, b, c⟩ := fun h => c0 (by rw [h])
        rw [h9, if_neg this]; omega
    · have hk2 : 4 = k := by omega
      subst hk2
      simp (disch := omega) [f1, f2, f7, f24, f25, f26, f34, f35, wrap_i64]
      refine ⟨by omega, l, e3, fun a b c => ?_⟩
      rw [hus]
      exact hlk (a, b, c)
  have hi2 : S.length = i := by omega
  subst hi2
  rw [List.take_length] at hlk
  have x2 : HX H1 H2 := by rw [e2]; exact .push
  have hs2 := hs1.mono x2
  have hd2 := hd.mono (x1.trans x2)
  have hp2 := hp.mono (x1.trans x2)
  have hb : H2[H1.length]? = some (.map (mE kI3 vI l)) := by rw [e2]; simp
  have hgt : ∀ e : Ed, vmget true [.int .i64, .int .i64, .int .i64] false (.int .i64 0) H2 (.mp H1.length) (.agg [.int .i64 e.x, .int .i64 e.y, .int .i64 e.u]) = some (.int .i64 (useN S e)) := fun e => by
    have h1 : vmget true [.int .i64, .int .i64, .int .i64] false (.int .i64 0) H2 (.mp H1.length) (.agg [.int .i64 e.x, .int .i64 e.y, .int .i64 e.u]) = some (.int .i64 ((look (e.x, e.y, e.u) l).getD 0)) := vmgetE (K := kI3) (vc := vI) (z := 0) (a := (e.x, e.y, e.u)) hb
    rw [h1, hlk]
  simp [f1, f2, f7, hs.len]
  clear f24 f25 f26 hb hlk
  refine wLoop_up S.length (fun i fr L H' => ∃ X, (fr 2 = .lp 0 0 ∧ fr 7 = .mp H1.length ∧ fr 12 = .int .i64 (tS (fun s => sqS (psi w D P S) s 4) S i) ∧ fr 47 = sv ∧ fr 48 = .int .i64 S.length ∧ fr 49 = .int .i64 i) ∧ L = [.int .i64 w, .int .i64 q, d, p] :: X ∧ H' = H2) ⟨X, by simp [f1, f2, f7, hs.len, tS_zero], rfl, rfl⟩ ?_
  clear f1 f2 f7 X
  rintro i hi fr L H3 ⟨X, ⟨f2, f7, f12, f47, f48, f49⟩, rfl, e3⟩
  have e3 := e3.symm
  subst e3
  simp [f2, f7, f12, f47, f48, f49]
  refine cond_dec (fun ht => ?_) fun hfl => ?_
  · have ht : i < S.length := by omega
    have hat := hs2.at ht
    have hld := fun (L : Lo) => hs2.load (L := L) ht
    have hin := hsq (S.getD i default) (by simp [List.getD_eq_getElem?_getD, ht])
    have hsu := tS_succ (f := fun s => sqS (psi w D P S) s 4) ht
    have hb1 := tS_bd (f := fun s => sqS (psi w D P S) s 4) (l := S) (B := 16) (fun s _ => by have := sqS_bd (φ := psi w D P S) (fun e => psi_bd) (s := s) 4; omega) (i := i) (by omega)
    generalize hse : S.getD i default = s at *
    generalize tS (fun s => sqS (psi w D P S) s 4) S i = T at *
    have hsb := hin
    simp only [isSB, decide_eq_true_eq] at hsb
    simp (disch := omega) [f2, f7, f12, f47, f48, f49, hat, hld, plC, Pl.cells, lastO, lastS]
    refine flow_rim (by omega) (by omega) ?_
    have hrc : [V.int .i64 s.x, .int .i64 s.y, .int .i64 0, .int .i64 1, .int .i64 (s.x + 1), .int .i64 s.y, .int .i64 1, .int .i64 1, .int .i64 s.x, .int .i64 (s.y + 1), .int .i64 0, .int .i64 (-1), .int .i64 s.x, .int .i64 s.y, .int .i64 1, .int .i64 (-1)] = rimC s := rfl
    rw [hrc]
    simp
    refine wLoop_up 4 (fun k fr L H' => ∃ X, (fr 2 = .lp 0 0 ∧ fr 7 = .mp H1.length ∧ fr 12 = .int .i64 (T + sqS (psi w D P S) s k) ∧ fr 47 = sv ∧ fr 48 = .int .i64 S.length ∧ fr 49 = .int .i64 i ∧ fr 57 = .agg (rimC s) ∧ fr 58 = .int .i64 k) ∧ L = [.int .i64 w, .int .i64 q, d, p] :: X ∧ H' = H2) ⟨_, by simp [f2, f7, f12, f47, f48, f49, sqS], rfl, rfl⟩ ?_
    clear f2 f7 f12 f47 f48 f49 X
    rintro k hk fr L H3 ⟨X, ⟨f2, f7, f12, f47, f48, f49, f57, f58⟩, rfl, e3⟩
    have e3 := e3.symm
    subst e3
    simp [f2, f7, f12, f47, f48, f49, f57, f58]
    refine cond_dec (fun ht2 => ?_) fun hfl2 => ?_
    · have ht2 : k < 4 := by omega
      have hix := rimC_at (s := s) ht2
      have hsd := sd_eb hin k ht2
      have hst : sqS (psi w D P S) s (k + 1) = sqS (psi w D P S) s k + sdS k * psi w D P S (sdE s k) := rfl
      have hb2 := sqS_bd (φ := psi w D P S) (fun e => psi_bd) (s := s) k
      have hpe : psi w D P S (sdE s k) = if useN S (sdE s k) = 1 then tnP w D P (sdE s k).x (sdE s k).y (sdE s k).u else 0 := rfl
      have hg := hgt (sdE s k)
      have hsg := sdS_1 k
      have htb := tnP_bd (w := w) (D := D) (P := P) (x := (sdE s k).x) (y := (sdE s k).y) (u := (sdE s k).u)
      generalize hed : sdE s k = e at *
      generalize sdS k = sg at *
      generalize sqS (psi w D P S) s k = R at *
      simp (disch := omega) [f2, f7, f12, f47, f48, f49, f57, f58, hix, lastO, lastS, z4, hg]
      refine cond_dec (fun hu => ?_) fun hu => ?_
      · simp (disch := omega) [f2, f7, f12, f47, f48, f49, f57, f58, lastO, lastS, z4, hd.stor, hp.stor]
        refine flow_turning hd2 hp2 hf hsd ?_
        rw [if_pos hu] at hpe
        rw [hpe] at hst
        generalize tnP w D P e.x e.y e.u = t at *
        have hbd : -4 ≤ sg * t ∧ sg * t ≤ 4 := by rcases hsg with h1 | h1 <;> rw [h1] <;> omega
        have hwr : IntKind.i64.wrap (sg * t) = sg * t := wrap_i64 (by omega) (by omega)
        simp (disch := omega) [f2, f7, f12, f47, f48, f49, f57, f58, wrap_i64, hwr, hst]
        omega
      · rw [if_neg hu] at hpe
        rw [hpe, Int.mul_zero, Int.add_zero] at hst
        simp (disch := omega) [f2, f7, f12, f47, f48, f49, f57, f58, wrap_i64, hst]
        omega
    · have hk2 : 4 = k := by omega
      subst hk2
      simp (disch := omega) [f2, f7, f12, f47, f48, f49, f57, f58, wrap_i64, hsu]
      omega
  have hi2 : S.length = i := by omega
  subst hi2
  rw [tS_all] at f12
  simp [f12]
  exact hK _ (x1.trans x2)
end
end Go.Proofs.Ytjchpgkibhdoiaa.Vm
