/- Regions of squares over the machine: the document's rim; FlowRims. -/
import Derived.Test.YtjchpgkibhdoiaaRiD
namespace Go.Proofs.Ytjchpgkibhdoiaa.Vm
open Go
set_option maxRecDepth 100000
set_option maxHeartbeats 1000000
set_option linter.unusedSimpArgs false
set_option linter.unusedVariables false
attribute [-simp] List.getD_eq_getElem?_getD
/-- what an edge adds to the rim -/
def rimT (w : Nat) (D : List Int) (P : List Ed) (S : List Pl) (e : Ed) : Int := tnE w D P e * (ib (leE e ∈ S) - ib (riE e ∈ S))
theorem rimT_bd {w : Nat} {D : List Int} {P : List Ed} {S : List Pl} {e : Ed} : -4 ≤ rimT w D P S e ∧ rimT w D P S e ≤ 4 := by
  have := tnP_bd (w := w) (D := D) (P := P) (x := e.x) (y := e.y) (u := e.u)
  unfold rimT tnE ib
  by_cases l : leE e ∈ S <;> by_cases r : riE e ∈ S <;> simp [l, r] <;> omega
section
variable {lim : Nat} {H : Hp} {K : V → Hp → Prop} {v d p sv : V} {D : List Int} {P : List Ed} {S : List Pl} {W Q x y u : Int} {w q : Nat}
theorem ref_namedS {x y : Int} (hs : LstV plC H sv S) (hn : S.length ≤ 2000) (hK : K (.bool (decide ((⟨x, y⟩ : Pl) ∈ S))) H) : VCall tbl lim 56 [sv, .int .i64 x, .int .i64 y] H K := by
  refine VCall_fn tbl_at56 rfl ?_
  simp [vf56]
  refine wLoop_up S.length (fun i fr L H' => (fr 0 = sv ∧ fr 1 = .int .i64 x ∧ fr 2 = .int .i64 y ∧ fr 7 = .int .i64 i) ∧ L = [] ∧ H' = H ∧ (⟨x, y⟩ : Pl) ∉ S.take i) ⟨by simp, rfl, rfl, by simp⟩ ?_
  rintro i hi fr L H' ⟨⟨f0, f1, f2, f7⟩, rfl, e0, ha⟩
  have e0 := e0.symm
  subst e0
  simp [f0, f1, f2, f7, hs.len]
  refine cond_dec (fun ht => ?_) fun hfl => ?_
  · have ht : i < S.length := by omega
    have ad := hs.at ht
    have fa0 : vfaddr 0 (ept 2 sv i) = some (eptf 2 sv i 0) := hs.faddr ht
    have fa1 : vfaddr 1 (ept 2 sv i) = some (eptf 2 sv i 1) := hs.faddr ht
    have ld0 : ∀ L, vload none L H (eptf 2 sv i 0) = some (.int .i64 (S.getD i default).x) := fun L => hs.rd1 ht (by omega)
    have ld1 : ∀ L, vload none L H (eptf 2 sv i 1) = some (.int .i64 (S.getD i default).y) := fun L => hs.rd1 ht (by omega)
    have htk := take_mem ht
    have hin : S.getD i default ∈ S := by simp [List.getD_eq_getElem?_getD, ht]
    generalize S.getD i default = s at *
    by_cases ex : s.x = x
    · by_cases ey : s.y = y
      · have : (⟨x, y⟩ : Pl) ∈ S := by rw [← ex, ← ey]; exact hin
        simp [f0, f1, f2, f7, ad, fa0, fa1, ld0, ld1, ex, ey]
        simpa [this] using hK
      · simp (disch := omega) [f0, f1, f2, f7, ad, fa0, fa1, ld0, ld1, ex, ey, wrap_i64]
        refine ⟨by omega, ?_⟩
        rw [htk, List.mem_append]
        rintro (h | h)
        · exact ha h
        · simp at h; exact ey (by rw [← h])
    · simp (disch := omega) [f0, f1, f2, f7, ad, fa0, fa1, ld0, ld1, ex, wrap_i64]
      refine ⟨by omega, ?_⟩
      rw [htk, List.mem_append]
      rintro (h | h)
      · exact ha h
      · simp at h; exact ex (by rw [← h])
  · have : S.length = i := by omega
    subst this
    rw [List.take_length] at ha
    simp
    simpa [ha] using hK
theorem ref_Rim (hd : SlV H d D) (hp : EdV H p P) (hs : LstV plC H sv S) (hW : I64 W) (hQ : I64 Q) (hl : D.length ≤ 1000 ∧ P.length ≤ 1000) (hn : S.length ≤ 200) (hlim : lim ≤ H.length)
    (hK : ∀ H', HX H H' → K (.tup [.int .i64 (rimP W Q D P S).1, .int .i64 (rimP W Q D P S).2]) H') : VCall tbl lim 25 [.agg [.int .i64 W, .int .i64 Q, d, p], sv] H K := by
  refine VCall_fn tbl_at25 rfl ?_
  simp [vf25, hd.stor, hp.stor, hs.stor]
  refine ref_region hd hp hs hW hQ hl hn hlim fun H1 x1 => ?_
  replace x1 : HX H H1 := x1
  have l1 := x1.len
  simp
  refine cond_ndec (fun h => ?_) fun h => ?_
  · have := hK _ x1
    simp only [rimP, h, if_false] at this
    simp
    exact this
  obtain ⟨w, q, rfl, rfl, hf, hval, hsq, hnd⟩ := regE_ok h
  have hw1 := hf.w1
  have hq1 := hf.q1
  have hfin : ((edL w q w).map (rimT w D P S)).sum = 4 * (S.map (idxS w D P)).sum := by
    have hpsi : rimT w D P S = fun e => tnE w D P e * (ib (leE e ∈ S) - ib (riE e ∈ S)) := rfl
    have e1 := (rim_in (c := tnE w D P) hsq hnd).1
    rw [← hpsi] at e1
    have e2 : (S.map fun s => sqS (tnE w D P) s 4).sum = (S.map fun s => rndP w D P s.x s.y).sum := sum_congrL fun s _ => sqS_rnd
    exact e1.trans (e2.trans (sum_4 hf))
  simp only [rimP, h, if_true, Int.toNat_natCast, ← hfin] at hK
  simp [hd.stor, hp.stor]
  refine ref_edges hd.stor hp.stor hf.w1 hf.q1 (by omega) fun H2 lv x2 hlv => ?_
  replace x2 : HX H1 H2 := x2
  have hev := hlv.edv hf.w1 hf.q1
  have hel := edL_len (w := w) hf.q1.2 w
  have x12 := x1.trans x2
  have hd2 := hd.mono x12
  have hp2 := hp.mono x12
  have hs2 := hs.mono x12
  have hok := edL_ok (w := w) (q := q) w
  generalize edL w q w = E at *
  simp
  refine wLoop_up E.length (fun i fr L H' => ∃ X, (fr 1 = sv ∧ fr 2 = .lp 0 0 ∧ fr 7 = .int .i64 (tS (rimT w D P S) E i) ∧ fr 8 = lv ∧ fr 9 = .int .i64 i) ∧ L = [.int .i64 w, .int .i64 q, d, p] :: X ∧ H' = H2) ⟨[], by simp [tS_zero], rfl, rfl⟩ ?_
  rintro i hi fr L H3 ⟨X, ⟨f1, f2, f7, f8, f9⟩, rfl, e3⟩
  have e3 := e3.symm
  subst e3
  simp [f1, f2, f7, f8, f9, hev.len]
  refine cond_dec (fun ht => ?_) fun hfl => ?_
  · have ht : i < E.length := by omega
    have hat := hev.lst.at ht
    have hld := fun (L : Lo) => hev.load (L := L) ht
    have hsu := tS_succ (f := rimT w D P S) ht
    have hb1 := tS_bd (f := rimT w D P S) (l := E) (B := 4) (fun _ _ => rimT_bd) (i := i) (by omega)
    have heb := hok (E.getD i default) (by simp [List.getD_eq_getElem?_getD, ht])
    have htb := tnP_bd (w := w) (D := D) (P := P) (x := (E.getD i default).x) (y := (E.getD i default).y) (u := (E.getD i default).u)
    generalize E.getD i default = e at *
    generalize tS (rimT w D P S) E i = T at *
    have hrt : rimT w D P S e = tnP w D P e.x e.y e.u * (ib (leE e ∈ S) - ib (riE e ∈ S)) := rfl
    rw [hrt] at hsu
    have hed := heb
    simp only [isEB, decide_eq_true_eq] at hed
    simp (disch := omega) [f1, f2, f7, f8, f9, hat, hld, lastO, lastS, hs.stor]
    refine ref_namedS hs2 (by omega) ?_
    simp (disch := omega) [f1, f2, f7, f8, f9, lastO, lastS, hs.stor, wrap_i64]
    refine ref_namedS hs2 (by omega) ?_
    rcases (show e.u = 0 ∨ e.u = 1 by omega) with hu | hu
    · have hle : leE e = ⟨e.x, e.y⟩ := by unfold leE; rw [hu, if_neg (by omega)]
      have hri : riE e = ⟨e.x, e.y - 1⟩ := by unfold riE; rw [hu, if_neg (by omega)]
      rw [← hle, ← hri]
      rw [hu] at heb hsu htb
      simp (disch := omega) [f1, f2, f7, f8, f9, lastO, lastS, hu]
      by_cases l : leE e ∈ S <;> by_cases r : riE e ∈ S
      · have hz : T + tnP w D P e.x e.y 0 * (ib (leE e ∈ S) - ib (riE e ∈ S)) = T := by simp [ib, l, r]
        rw [hz] at hsu
        simp (disch := omega) [f1, f2, f7, f8, f9, l, r, hsu, wrap_i64]
        omega
      · have hz : T + tnP w D P e.x e.y 0 * (ib (leE e ∈ S) - ib (riE e ∈ S)) = T + tnP w D P e.x e.y 0 := by simp [ib, l, r]
        rw [hz] at hsu
        simp (disch := omega) [f1, f2, f7, f8, f9, l, r, lastO, lastS, hd.stor, hp.stor]
        refine ref_turning hd2 hp2 hf heb ?_
        simp (disch := omega) [f1, f2, f7, f8, f9, l, r, hsu, wrap_i64]
        omega
      · have hz : T + tnP w D P e.x e.y 0 * (ib (leE e ∈ S) - ib (riE e ∈ S)) = T - tnP w D P e.x e.y 0 := by simp [ib, l, r]; omega
        rw [hz] at hsu
        simp (disch := omega) [f1, f2, f7, f8, f9, l, r, lastO, lastS, hd.stor, hp.stor]
        refine ref_turning hd2 hp2 hf heb ?_
        simp (disch := omega) [f1, f2, f7, f8, f9, l, r, hsu, wrap_i64]
        omega
      · have hz : T + tnP w D P e.x e.y 0 * (ib (leE e ∈ S) - ib (riE e ∈ S)) = T := by simp [ib, l, r]
        rw [hz] at hsu
        simp (disch := omega) [f1, f2, f7, f8, f9, l, r, hsu, wrap_i64]
        omega
    · have hle : leE e = ⟨e.x - 1, e.y⟩ := by unfold leE; rw [hu, if_pos rfl]
      have hri : riE e = ⟨e.x, e.y⟩ := by unfold riE; rw [hu, if_pos rfl]
      simp (disch := omega) [f1, f2, f7, f8, f9, lastO, lastS, hu, hs.stor, wrap_i64]
      refine ref_namedS hs2 (by omega) ?_
      simp (disch := omega) [f1, f2, f7, f8, f9, lastO, lastS, hs.stor, wrap_i64]
      refine ref_namedS hs2 (by omega) ?_
      rw [← hle, ← hri]
      rw [hu] at heb hsu htb
      simp (disch := omega) [f1, f2, f7, f8, f9, lastO, lastS, hu]
      by_cases l : leE e ∈ S <;> by_cases r : riE e ∈ S
      · have hz : T + tnP w D P e.x e.y 1 * (ib (leE e ∈ S) - ib (riE e ∈ S)) = T := by simp [ib, l, r]
        rw [hz] at hsu
        simp (disch := omega) [f1, f2, f7, f8, f9, l, r, hsu, wrap_i64]
        omega
      · have hz : T + tnP w D P e.x e.y 1 * (ib (leE e ∈ S) - ib (riE e ∈ S)) = T + tnP w D P e.x e.y 1 := by simp [ib, l, r]
        rw [hz] at hsu
        simp (disch := omega) [f1, f2, f7, f8, f9, l, r, lastO, lastS, hd.stor, hp.stor]
        refine ref_turning hd2 hp2 hf heb ?_
        simp (disch := omega) [f1, f2, f7, f8, f9, l, r, hsu, wrap_i64]
        omega
      · have hz : T + tnP w D P e.x e.y 1 * (ib (leE e ∈ S) - ib (riE e ∈ S)) = T - tnP w D P e.x e.y 1 := by simp [ib, l, r]; omega
        rw [hz] at hsu
        simp (disch := omega) [f1, f2, f7, f8, f9, l, r, lastO, lastS, hd.stor, hp.stor]
        refine ref_turning hd2 hp2 hf heb ?_
        simp (disch := omega) [f1, f2, f7, f8, f9, l, r, hsu, wrap_i64]
        omega
      · have hz : T + tnP w D P e.x e.y 1 * (ib (leE e ∈ S) - ib (riE e ∈ S)) = T := by simp [ib, l, r]
        rw [hz] at hsu
        simp (disch := omega) [f1, f2, f7, f8, f9, l, r, hsu, wrap_i64]
        omega
  have hi2 : E.length = i := by omega
  subst hi2
  rw [tS_all] at f7
  simp [f7]
  exact hK _ x12
theorem law_FlowRims {ws : List V} {f : Fld} (hv : FldV H ws f) (hs : LstV plC H sv S) (hlim : lim ≤ H.length) (hK : ∀ H', K (.bool true) H') : VCall tbl lim 6 [.agg ws, sv] H K := by
  cases hv with
  | mk hW hQ hd hp hD =>
    rename_i d p W Q D P
    refine VCall_fn tbl_at6 rfl ?_
    simp [vf6, hd.stor, hp.stor, hs.stor]
    refine fl_Long hd hp ?_
    simp only [Bool.decide_or]
    by_cases h : 400 < D.length ∨ 200 < P.length
    · have e : (decide (400 < D.length) || decide (200 < P.length)) = true := by simpa using h
      simp [e]
      refine fl_known hlim fun H1 _ => ?_
      simp; exact hK _
    have e : (decide (400 < D.length) || decide (200 < P.length)) = false := by
      simp only [Bool.or_eq_false_iff, decide_eq_false_iff_not]; omega
    have hl : D.length ≤ 1000 ∧ P.length ≤ 1000 := by omega
    simp [e, hs.len]
    refine cond_dec (fun h2 => ?_) fun h2 => ?_
    · simp
      refine fl_known hlim fun H1 _ => ?_
      simp; exact hK _
    have hn : S.length ≤ 200 := by omega
    simp [hd.stor, hp.stor, hs.stor]
    refine flow_Inside hd hp hs hW hQ hl hn hlim fun H1 x1 => ?_
    replace x1 : HX H H1 := x1
    have l1 := x1.len
    simp [hd.stor, hp.stor, hs.stor]
    refine ref_Inside (hd.mono x1) (hp.mono x1) (hs.mono x1) hW hQ hl hn (by omega) fun H2 x2 => ?_
    replace x2 : HX H1 H2 := x2
    have l2 := x2.len
    have y2 := x1.trans x2
    simp [hd.stor, hp.stor, hs.stor]
    refine flow_Rim (hd.mono y2) (hp.mono y2) (hs.mono y2) hW hQ hl hn (by omega) fun H3 x3 => ?_
    replace x3 : HX H2 H3 := x3
    have l3 := x3.len
    have y3 := y2.trans x3
    simp [hd.stor, hp.stor, hs.stor]
    refine ref_Rim (hd.mono y3) (hp.mono y3) (hs.mono y3) hW hQ hl hn (by omega) fun H4 x4 => ?_
    replace x4 : HX H3 H4 := x4
    have l4 := x4.len
    have hx4 : (rimP W Q D P S).1 = 4 * (insP W Q D P S).1 := by
      unfold rimP insP; split <;> rfl
    have hb : -5000 ≤ (insP W Q D P S).1 ∧ (insP W Q D P S).1 ≤ 5000 := by
      unfold insP; split
      · have := tS_bd (f := idxS W.toNat D P) (l := S) (B := 25) (fun _ _ => idx_bd) (Nat.le_refl _)
        rw [tS_all] at this; simp only; omega
      · simp
    simp (disch := omega) [hx4, wrap_i64]
    refine fl_known (by omega) fun H5 _ => ?_
    simp; exact hK _
end
end Go.Proofs.Ytjchpgkibhdoiaa.Vm
