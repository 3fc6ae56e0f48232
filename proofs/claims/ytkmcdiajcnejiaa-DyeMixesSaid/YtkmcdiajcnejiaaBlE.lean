/- Package dye over the machine: collect, as a whole. -/
import Derived.Test.YtkmcdiajcnejiaaBlD
namespace Go.Proofs.Ytkmcdiajcnejiaa.Vm
open Go
set_option maxRecDepth 100000
set_option maxHeartbeats 1000000
set_option linter.unusedSimpArgs false
set_option linter.unusedVariables false
attribute [-simp] List.getD_eq_getElem?_getD
section
variable {lim : Nat} {H : Hp} {K : V → Hp → Prop} {v w : V} {l m : List Prt} {x y u1 u2 u3 : Int}
theorem prt_put {n i : Nat} {u : V} {x : Int} (ho : OwnT n prC H u l) (hi : i < l.length) (hlim : lim ≤ n) (hx : addW (l.getD i default) y = addW (l.getD i default) y) (L : Lo) : vstore lim L H (eptf 4 u i 3) (.int .i64 ((l.getD i default).w + y)) 1 = some (L, setH H u (prC.all (l.set i (addW (l.getD i default) y)))) :=
  ho.store (lim := lim) (i := i) (j := 3) (x := .int .i64 ((l.getD i default).w + y)) (y := addW (l.getD i default) y) (L := L) (sz := 1) hlim hi rfl rfl (by omega) (by simp [prC, Prt.cells, splice, cellsV, addW])
theorem dye_collect {b : V} {vs : List V} {Ls : List (List Prt)} (hb : LstV vC H b vs) (hlen : vs.length = Ls.length) (hL : ∀ i, i < Ls.length → LstV prC H (vs.getD i default) (Ls.getD i []) ∧ 0 < (Ls.getD i []).length) (h0 : 0 < Ls.length ∧ Ls.length ≤ 10) (hl : Ls.flatten.length ≤ 200) (hlim : lim ≤ H.length)
    {B : Int} (hB : 0 ≤ B ∧ B ≤ 1000000000000) (hA : ∀ p, p ∈ Ls.flatten → okS p ∧ -B ≤ p.w ∧ p.w ≤ B) (hK : ∀ H' v', HX H H' → PreT H.length H' v' (colP Ls.flatten) → K v' H') : VCall tbl lim 43 [b] H K := by
  refine VCall_fn tbl_at43 rfl ?_
  have hst := hb.stor
  simp [vf43, hst]
  refine prt_Concat hb hlen hL h0 (by omega) hlim fun H1 u x1 hu => ?_
  replace x1 : HX H H1 := x1
  have l1 := x1.len
  generalize Ls.flatten = A at *
  simp [hu.lst.stor]
  refine sort_pt hu hlim l1 (by omega) fun S H2 hp hs hS l2 hoth => ?_
  have hx2 : HX H H2 := HX.of (by omega) fun b hb => by rw [hoth b hb]; exact x1.same hb
  have hSl : S.length = A.length := hp.length_eq
  have hSA : ∀ i, i < S.length → okS (S.getD i default) ∧ -B ≤ (S.getD i default).w ∧ (S.getD i default).w ≤ B := fun i hi => by
    have : S.getD i default = S[i] := by rw [List.getD_eq_getElem?_getD, List.getElem?_eq_getElem hi]; rfl
    rw [this]
    exact hA _ (hp.mem_iff.1 (List.getElem_mem hi))
  have hcol := collect_eq (A := A) (S := S) (fun p hp => (hA p hp).1) hp fun i j hij hj => ptCf_num (hSA i (by omega)).1 (hSA j hj).1 (hs i j (by omega) hij hj)
  simp [hS.lst.len]
  refine wLoop_up S.length (fun k fr L H' => ∃ q, (fr 12 = u ∧ fr 13 = .int .i64 S.length ∧ fr 14 = .int .i64 k ∧ fr 4 = q) ∧ HX H2 H' ∧ OwnT H2.length prC H' q (mgN S k)) ⟨.snil, by simp [hS.lst.len], HX.refl, .nil⟩ ?_
  rintro k hk fr L H3 ⟨q, ⟨f12, f13, f14, f4⟩, x3, hq⟩
  have l3 := x3.len
  have hS3 := hS.lst.mono x3
  have ml := mgN_len (S := S) (k := k)
  simp [f12, f13, f14, f4]
  refine cond_dec (fun ht => ?_) fun hfl => ?_
  · have ht : k < S.length := by omega
    have hbd := mgN_bd hB.1 (fun i hi => (hSA i hi).2) (k := k) (by omega)
    have hpw := (hSA k ht).2
    have hmg : mgN S (k + 1) = mg1 (mgN S k) (S.getD k default) := rfl
    have ld := fun L => prt_load hS3 ht (L := L)
    rw [hmg]
    generalize S.getD k default = p at *
    generalize mgN S k = M at *
    have hap : ∃ v' H', vappend lim 4 32 (H3 ++ [.row [.int .i64 p.l, .int .i64 p.t, .int .i64 p.b, .int .i64 p.w] true]) q (.sl H3.length 0 1 4) = some (v', H') ∧ OwnT H2.length prC H' v' (M ++ [p]) ∧ HX H2 H' := by
      obtain ⟨v', H', a1, a2, a3, a4, a5, a6⟩ := hq.append (lim := lim) (bytes := 32) (x := p) (cs := [.int .i64 p.l, .int .i64 p.t, .int .i64 p.b, .int .i64 p.w]) rfl ⟨by omega, by omega⟩ (by omega) (by omega)
      exact ⟨v', H', a1, a2, a3 _ x3 (Nat.le_refl _)⟩
    by_cases hM0 : M.length = 0
    · have hmg1 : mg1 M p = M ++ [p] := by unfold mg1; rw [if_neg (by omega)]
      rw [hmg1]
      obtain ⟨v', H', a1, a2, a3⟩ := hap
      have hg0 : ¬ (0 : Int) < (M.length : Int) := by omega
      simp (disch := omega) [f12, f13, f14, f4, hS3.at ht, ld, lpId_ept, lastO, lastS, splice44, iz4, hq.lst.len, hM0, hg0, vbslice_some, splice, rd4_w, a1, wrap_i64]
      exact ⟨by omega, a3, a2⟩
    · have hg0 : (0 : Int) < (M.length : Int) := by omega
      have hgn : 0 < M.length := by omega
      have ls : ∀ a b c d : Int, vstore lim (L ++ [[.int .i64 0, .int .i64 0, .int .i64 0, .int .i64 0]]) H3 (.lp L.length 0) (.agg [.int .i64 a, .int .i64 b, .int .i64 c, .int .i64 d]) 4 = some (L ++ [[.int .i64 a, .int .i64 b, .int .i64 c, .int .i64 d]], H3) := fun a b c d => by
        simp [lastO, lastS, splice44]
      have am : viaddrS 4 q (.int .i64 ((M.length : Int) - 1)) = some (ept 4 q (M.length - 1)) := by
        have := hq.lst.at (i := M.length - 1) (by omega)
        rw [show ((M.length - 1 : Nat) : Int) = (M.length : Int) - 1 by omega] at this
        exact this
      have fa0 : vfaddr 0 (ept 4 q (M.length - 1)) = some (eptf 4 q (M.length - 1) 0) := hq.lst.faddr (by omega)
      have fa3 : vfaddr 3 (ept 4 q (M.length - 1)) = some (eptf 4 q (M.length - 1) 3) := hq.lst.faddr (by omega)
      have sh := fun L => prt_sh hq.lst (i := M.length - 1) (by omega) (L := L)
      have gw := fun L => prt_get hq.lst (i := M.length - 1) (j := 3) (by omega) (by omega) (L := L)
      have hlast := hbd (M.getD (M.length - 1) default) (by rw [List.getD_eq_getElem?_getD, List.getElem?_eq_getElem (by omega)]; exact List.getElem_mem _)
      have hBk : B * (k : Int) ≤ 1000000000000 * 200 := Int.le_trans (Int.mul_le_mul_of_nonneg_right hB.2 (by omega)) (Int.mul_le_mul_of_nonneg_left (by omega) (by omega))
      have sw := fun L => prt_put (lim := lim) (y := p.w) (x := 0) hq (i := M.length - 1) (by omega) (by omega) rfl L
      have hput := hq.put (l' := M.set (M.length - 1) (addW (M.getD (M.length - 1) default) p.w)) (by simp)
      have hputx := hq.setX x3 (Nat.le_refl _) (cs := prC.all (M.set (M.length - 1) (addW (M.getD (M.length - 1) default) p.w)))
      cases hsm : sameS (M.getD (M.length - 1) default) p with
      | true =>
        have hmg1 : mg1 M p = M.set (M.length - 1) (addW (M.getD (M.length - 1) default) p.w) := by unfold mg1; rw [if_pos ⟨by omega, hsm⟩]
        rw [hmg1]
        have h3 : (M.getD (M.length - 1) default).l = p.l ∧ (M.getD (M.length - 1) default).t = p.t ∧ (M.getD (M.length - 1) default).b = p.b := by simpa [sameS] using hsm
        simp (disch := omega) [f12, f13, f14, f4, hS3.at ht, ld, lpId_ept, lpId_eptf, lastO, lastS, splice44, iz4, hq.lst.len, hg0, hgn, ls, wrap_i64, am, fa0, fa3, sh, gw, rd43, rd4_3, veqA_3, eq_true h3.1, eq_true h3.2.1, eq_true h3.2.2, sw, -vstore]
        exact ⟨by omega, hputx, hput⟩
      | false =>
        have hmg1 : mg1 M p = M ++ [p] := by unfold mg1; rw [if_neg (by rw [hsm]; simp)]
        rw [hmg1]
        obtain ⟨v', H', a1, a2, a3⟩ := hap
        unfold sameS at hsm
        simp (disch := omega) [f12, f13, f14, f4, hS3.at ht, ld, lpId_ept, lpId_eptf, lastO, lastS, splice44, iz4, hq.lst.len, hg0, hgn, ls, wrap_i64, am, fa0, fa3, sh, gw, rd43, rd4_3, veqA_3, hsm, vbslice_some, splice, rd4_w, a1]
        exact ⟨by omega, a3, a2⟩
  · have hkS : k = S.length := by omega
    subst hkS
    simp [f4, hq.lst.stor]
    refine prt_Delete hq (by omega) l3 (by omega) fun H4 v4 l4 hoth4 hpre => ?_
    rw [hcol] at hpre
    have hx4 : HX H H4 := HX.of (by omega) fun b hb => by rw [hoth4 b (by omega)]; exact (hx2.trans x3).same hb
    have := hK H4 v4 hx4 (hpre.le (by omega))
    simp [hpre.lst.stor]
    exact this
end
end Go.Proofs.Ytkmcdiajcnejiaa.Vm
