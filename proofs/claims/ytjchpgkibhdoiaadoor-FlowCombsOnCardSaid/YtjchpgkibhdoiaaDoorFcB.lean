/- Combing over the machine. -/
import Derived.Test.YtjchpgkibhdoiaaDoorFcA
namespace Go.Proofs.YtjchpgkibhdoiaaDoor.Vm
open Go
set_option maxRecDepth 100000
set_option linter.unusedSimpArgs false
set_option linter.unusedVariables false
attribute [-simp] List.getD_eq_getElem?_getD

section
variable {lim : Nat} {H : Hp} {K : V → Hp → Prop} {v d p : V} {D : List Int} {P : List Ed} {W Q x y u : Int} {w q : Nat}
theorem stp_end {p : Nat → Pl} {i : Nat} (hi : i ≤ ends w q p) (h : stpB w q p i = true) : i = ends w q p := by
  obtain ⟨a, b, c⟩ := ends_spec (w := w) (q := q) (p := p)
  by_cases e : i < ends w q p
  · rw [b i e] at h; cases h
  · omega
theorem stp_lt {p : Nat → Pl} {i : Nat} (hi : i ≤ ends w q p) (h : stpB w q p i = false) : i < ends w q p := by
  obtain ⟨a, b, c⟩ := ends_spec (w := w) (q := q) (p := p)
  by_cases e : i = ends w q p
  · rw [e, a] at h; cases h
  · omega
theorem nxt_nar {a : Pl} (hw : w ≤ 12) (hq : q ≤ 12) (h : inPl w q a = true) : Nar (nxt w D a) := by
  simp only [inPl, decide_eq_true_eq] at h
  have b1 := dX_bd (d := D.getD (a.y * w + a.x).toNat 0)
  have b2 := dY_bd (d := D.getD (a.y * w + a.x).toNat 0)
  unfold Nar nxt
  simp only
  omega
set_option maxHeartbeats 1000000 in
theorem flow_Comb {s : Pl} (hg : HX glHp H) (hd : SlV H d D) (hp : EdV H p P) (hW : I64 W) (hQ : I64 Q) (hl : D.length ≤ 1000 ∧ P.length ≤ 1000) (hlim : lim ≤ H.length)
    (hK : ∀ H' v, HX H H' → OwnT H.length plC H' v (cbP W Q D P s).1 → K (.tup [v, .bool (cbP W Q D P s).2.1, .int .i64 (cbP W Q D P s).2.2]) H') : VCall tbl lim 25 [.agg [.int .i64 W, .int .i64 Q, d, p], .int .i64 s.x, .int .i64 s.y] H K := by
  refine VCall_fn tbl_at25 rfl ?_
  simp [vf25, hd.stor, hp.stor]
  refine flow_Validate hd hp hW hQ hl hlim fun H1 x1 => ?_
  replace x1 : HX H H1 := x1
  have l1 := x1.len
  simp
  refine cond_ndec (fun h => ?_) fun h => ?_
  · simp
    have := hK H1 .snil x1
    simp only [cbP, if_neg h] at this; exact this .nil
  obtain ⟨w, q, rfl, rfl, hf⟩ := valid_pre h
  have hw1 := hf.w1
  have hq1 := hf.q1
  simp only [cbP, if_pos h, Int.toNat_natCast] at hK
  simp [hd.stor, hp.stor]
  refine flow_isPlaceP (a := s) hd.stor hp.stor ?_
  simp
  refine cond_bool (fun h2 => ?_) fun h2 => ?_
  · have h2 : ¬ inPl w q s = true := by simpa using h2
    simp
    have := hK H1 .snil x1
    simp only [if_neg h2] at this; exact this .nil
  have h2 : inPl w q s = true := by simpa using h2
  simp only [if_pos h2] at hK
  simp
  generalize hpos : pos w D s = po at *
  have po0 : po 0 = s := by rw [← hpos]; rfl
  have poS : ∀ i, po (i + 1) = nxt w D (po i) := fun i => by rw [← hpos]; rfl
  have hm := mul_bd (a := (w : Int)) (b := (q : Int)) (A := 12) (B := 12) (by omega) (by omega)
  have hen : ends w q po ≤ 144 := by
    have h1 := (ends_spec (w := w) (q := q) (p := po)).2.2
    have e : ((w * q : Nat) : Int) = (w : Int) * q := by simp
    omega
  refine wLoop_up (ends w q po) (fun i fr L H' => ∃ v X, (fr 3 = .lp 0 0 ∧ fr 6 = v ∧ fr 7 = .bool false ∧ fr 10 = .lp 1 0) ∧ L = [.int .i64 w, .int .i64 q, d, p] :: [.int .i64 (po i).x, .int .i64 (po i).y] :: X ∧ HX H H' ∧ OwnT H.length plC H' v (plL po i)) ⟨.snil, [], by simp, by rw [po0], x1, by simpa [plL] using OwnT.nil⟩ ?_
  rintro i hi fr L H2 ⟨v, X, ⟨f3, f6, f7, f10⟩, rfl, hx, hv⟩
  simp [f3, f6, f7, f10, hd.stor, hp.stor]
  refine flow_isPlaceP (a := po i) hd.stor hp.stor ?_
  simp
  refine cond_bool (fun h3 => ?_) fun h3 => ?_
  case refine_2 =>
    have e := stp_end hi (by simp only [stpB, h3]; rfl)
    subst e
    rw [h3] at hK
    simp [f6, f7, hv.lst.stor]
    exact hK _ _ hx hv
  have hvl : vlenS v = some (.int .i64 i) := by rw [hv.lst.len, plL_len]
  simp [f3, f6, f7, f10, hvl]
  refine wLoop_up i (fun j fr L H' => ∃ X, (fr 3 = .lp 0 0 ∧ fr 6 = v ∧ fr 7 = .bool false ∧ fr 10 = .lp 1 0 ∧ fr 33 = v ∧ fr 34 = .int .i64 i ∧ fr 35 = .int .i64 j) ∧ L = [.int .i64 w, .int .i64 q, d, p] :: [.int .i64 (po i).x, .int .i64 (po i).y] :: X ∧ H' = H2 ∧ allN (fun j => !eqPl (po j) (po i)) j = true) ⟨X, by simp [f3, f6, f7, f10], rfl, rfl, rfl⟩ ?_
  clear f3 f6 f7 f10
  rintro j hj fr L H3 ⟨X, ⟨f3, f6, f7, f10, f33, f34, f35⟩, rfl, e0, ha⟩
  have e0 := e0.symm
  subst e0
  simp [f3, f6, f7, f10, f33, f34, f35]
  refine cond_dec (fun ht => ?_) fun hfl => ?_
  · have ht : j < i := by omega
    have ad := hv.lst.at (i := j) (by rw [plL_len]; exact ht)
    have ld : ∀ L, vload (some 2) L H2 (ept 2 v j) = some (.agg [.int .i64 (po j).x, .int .i64 (po j).y]) := fun L => by
      have := hv.lst.load (L := L) (i := j) (by rw [plL_len]; exact ht)
      rw [plL_at ht] at this
      exact this
    simp [f3, f6, f7, f10, f33, f34, f35, ad, ld, lastO, lastS, veqA_2]
    refine cond_bool (fun h4 => ?_) fun h4 => ?_
    · have h5 : po j = po i := eqPl_iff.1 h4
      have hs := seenB_at ht h5
      have e := stp_end hi (by simp only [stpB, hs]; simp)
      subst e
      rw [h3] at hK
      simp [f6, hv.lst.stor]
      exact hK _ _ hx hv
    · have h5 : eqPl (po j) (po i) = false := h4
      simp (disch := omega) [f3, f6, f7, f10, f33, f34, f35, wrap_i64, allN, ha, h5]
      exact ht
  have : j = i := by omega
  subst this
  have hs : seenB po j = false := by simp only [seenB, ha]; rfl
  have hlt := stp_lt hi (by simp only [stpB, hs, h3]; rfl)
  have hx2 := hx.len
  obtain ⟨v', H3, a1, a2, a3, a4, a5, a6⟩ := hv.append (lim := lim) (bytes := 16) (x := po j) (cs := [.int .i64 (po j).x, .int .i64 (po j).y]) rfl ⟨hlim, hx.len⟩ (by omega) (by rw [plL_len]; omega)
  have hx3 := a3 _ hx (Nat.le_refl _)
  have ix := in_idx h3
  have hpl := h3
  simp only [inPl, decide_eq_true_eq] at hpl
  have hdl := hf.dl
  have m1 := mul_bd (a := (po j).y) (b := (w : Int)) (A := 12) (B := 12) (by omega) (by omega)
  have w1 : IntKind.i64.wrap ((po j).y * (w : Int)) = (po j).y * w := wrap_i64 (by omega) (by omega)
  have hd3 := hd.mono hx3
  have hdd := hf.dd ((po j).y * w + (po j).x).toNat
  have hst := steps_at (hg.trans hx3)
  have r := rd_tabS hdd
  have b1 := dX_bd (d := D.getD ((po j).y * w + (po j).x).toNat 0)
  have b2 := dY_bd (d := D.getD ((po j).y * w + (po j).x).toNat 0)
  have ad := hd3.addr (i := (po j).y * w + (po j).x) (by omega)
  have ld : ∀ L, vload none L H3 (ept 1 d ((po j).y * w + (po j).x).toNat) = some (.int .i64 (D.getD ((po j).y * w + (po j).x).toNat 0)) := fun L => hd3.load (by omega)
  have hnx : po (j + 1) = nxt w D (po j) := poS j
  have ad2 : ∀ dd : Int, 0 ≤ dd ∧ dd ≤ 7 → viaddrA 8 2 (.ptr 0 0) (.int .i64 dd) = some (.ptr 0 (dd.toNat * 2)) := fun dd h => by
    rw [viaddrA_in (by omega)]; simp [vfaddr_ptr]
  have ad3 := ad2 _ hdd
  have ws : IntKind.i64.wrap ((po j).y * (w : Int) + (po j).x) = (po j).y * w + (po j).x := wrap_i64 (by omega) (by omega)
  have hxx : (po (j + 1)).x = (po j).x + dX (D.getD ((po j).y * w + (po j).x).toNat 0) := by rw [hnx]; rfl
  have hyy : (po (j + 1)).y = (po j).y + dY (D.getD ((po j).y * w + (po j).x).toNat 0) := by rw [hnx]; rfl
  generalize D.getD ((po j).y * w + (po j).x).toNat 0 = dd at *
  simp (disch := omega) [f3, f6, f7, f10, a1, w1, ws, ad, ld, ad3, hst, r, lastO, lastS, wrap_i64, -viaddrA_in, -getElem?_pos, hxx, hyy]
  refine ⟨hlt, hx3, ?_⟩
  rw [plL_succ]; exact a2
end
end Go.Proofs.YtjchpgkibhdoiaaDoor.Vm
