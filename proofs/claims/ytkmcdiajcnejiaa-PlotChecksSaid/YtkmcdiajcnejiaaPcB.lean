/- Package plot over the machine: Check of any assignment. -/
import Derived.Test.YtkmcdiajcnejiaaPcA
namespace Go.Proofs.Ytkmcdiajcnejiaa.Vm
open Go
set_option maxRecDepth 100000
set_option maxHeartbeats 1000000
set_option linter.unusedSimpArgs false
set_option linter.unusedVariables false
attribute [-simp] List.getD_eq_getElem?_getD
def flagB (b b0 x : Bool) : Prop := b = (b0 || !x)
section
variable {p : Ply} {wl : List Int}
theorem cP_bad (h1 : valP p ≠ 0) : checkP p wl = valP p := by simp [checkP, h1]
theorem cP_len (h1 : valP p = 0) (h2 : wl.length ≠ p.W.length) : checkP p wl = 1 := by simp [checkP, h1, h2]
theorem cP_arg (h1 : valP p = 0) (h2 : wl.length = p.W.length) (h3 : allN (nnB wl) p.W.length = false) : checkP p wl = 1 := by simp [checkP, h1, h2, h3]
theorem cP_fit (h1 : valP p = 0) (h2 : wl.length = p.W.length) (h3 : allN (nnB wl) p.W.length = true) (h4 : allN (fitR p wl) p.W.length = false) : checkP p wl = 8 := by simp [checkP, h1, h2, h3, h4]
theorem cP_ov (h1 : valP p = 0) (h2 : wl.length = p.W.length) (h3 : allN (nnB wl) p.W.length = true) (h4 : allN (fitR p wl) p.W.length = true) (h5 : allN (ovR p wl) p.W.length = false) : checkP p wl = 10 := by simp [checkP, h1, h2, h3, h4, h5]
theorem cP_ok (h1 : valP p = 0) (h2 : wl.length = p.W.length) (h3 : allN (nnB wl) p.W.length = true) (h4 : allN (fitR p wl) p.W.length = true) (h5 : allN (ovR p wl) p.W.length = true) : checkP p wl = 0 := by simp [checkP, h1, h2, h3, h4, h5]
theorem allN_step {f : Nat → Bool} {n : Nat} (h : allN f n = true) (h2 : f n = true) : allN f (n + 1) = true := by simp [allN, h, h2]
theorem allN_eq {f : Nat → Bool} {n : Nat} : allN f (n + 1) = (allN f n && f n) := by simp [allN, Bool.and_comm]
end
section
variable {lim : Nat} {H : Hp} {K : V → Hp → Prop} {wv : V} {W : List Wr} {r c x y q u1 u2 u3 : Int} {v w : V} {wl : List Int} {T : Nat}
theorem plot_Check (hw : LstV wrC H wv W) (hv : SlV H v wl) (hK : K (.int .i64 (checkP ⟨W, r, c⟩ wl)) H) : VCall tbl lim 33 [.agg [wv, .int .i64 r, .int .i64 c], v] H K := by
  refine VCall_fn tbl_at33 rfl ?_
  simp [vf33, hw.stor, hw.one, hv.stor]
  refine plot_Validate hw ?_
  by_cases hval : valP ⟨W, r, c⟩ = 0
  case neg =>
    rw [cP_bad hval] at hK
    simp [hval]; exact hK
  obtain ⟨g1, g2, g3, g4, g5⟩ := valP_ok hval
  simp only at g1 g2 g3 g4 g5
  by_cases hlen : wl.length = W.length
  case neg =>
    rw [cP_len hval hlen] at hK
    have d1 : ¬ (wl.length : Int) = (W.length : Int) := by omega
    simp [hval, hw.len, hv.len, hlen, d1]; exact hK
  simp [hval, hw.len, hv.len, hlen]
  refine wLoop_up W.length (fun i fr L H' => (fr 1 = v ∧ fr 2 = .lp 0 0 ∧ fr 24 = v ∧ fr 25 = .int .i64 W.length ∧ fr 26 = .int .i64 i) ∧ L[0]? = some [wv, .int .i64 r, .int .i64 c] ∧ H' = H ∧ allN (nnB wl) i = true) ⟨by simp [hv.len, hlen], rfl, rfl, rfl⟩ ?_
  rintro i hi fr L H' ⟨⟨f1, f2, f24, f25, f26⟩, l0, e0, hn⟩
  have e0 := e0.symm
  subst e0
  simp [f1, f2, f24, f25, f26]
  refine cond_dec (fun ht => ?_) fun hfl => ?_
  · have ht : i < W.length := by omega
    have ai := hv.addr (i := (i : Int)) (by omega)
    simp only [Int.toNat_natCast] at ai
    simp (disch := omega) [f1, f2, f24, f25, f26, ai, hv.load, lpId_ept]
    refine cond_dec (fun hlt => ?_) fun hlt => ?_
    · rw [cP_arg hval hlen (allN_not ht (decide_eq_false (by omega)))] at hK
      simp; exact hK
    · simp (disch := omega) [f1, f2, f24, f25, f26, l0, wrap_i64]
      exact ⟨by omega, allN_step hn (decide_eq_true (by omega))⟩
  have hin : i = W.length := by omega
  rw [hin] at hn
  clear hi hfl f24 f25 f26 hin
  simp [f1, f2, l0, hw.len]
  refine wLoop_up W.length (fun i fr L H' => ∃ b, (fr 1 = v ∧ fr 2 = .lp 0 0 ∧ fr 34 = wv ∧ fr 35 = .int .i64 W.length ∧ fr 36 = .int .i64 i ∧ fr 8 = .bool b) ∧ L[0]? = some [wv, .int .i64 r, .int .i64 c] ∧ H' = H ∧ allN (fitR ⟨W, r, c⟩ wl) i = true ∧ flagB b false (allN (ovR ⟨W, r, c⟩ wl) i)) ⟨false, by simp [f1, f2, hw.len], l0, rfl, rfl, rfl⟩ ?_
  clear f1 f2 l0
  rintro i hi fr L H' ⟨b0, ⟨f1, f2, f34, f35, f36, f8⟩, l0, e0, hf, hb⟩
  have e0 := e0.symm
  subst e0
  simp [f1, f2, f34, f35, f36, f8]
  refine cond_dec (fun ht => ?_) fun hfl => ?_
  · have ht : i < W.length := by omega
    have hs := hw.sub (a := 0) (b := i) ⟨by omega, by omega⟩
    simp only [List.drop_zero, Nat.sub_zero] at hs
    have hsl : (W.take i).length = i := by simp; omega
    have hbd := hw.subW (a := 0) (b := i) ⟨by omega, by omega⟩ (by omega) (vbounds_hi (k := .i64) (by omega))
    simp (disch := omega) [f1, f2, f34, f35, f36, f8, hw.at ht, wr_load hw, lastO, lastS, splice44, iz4, l0, keepL l0, hbd, hs.len, hsl]
    refine wLoop_up i (fun k fr L' H' => ∃ b, (fr 1 = v ∧ fr 2 = .lp 0 0 ∧ fr 34 = wv ∧ fr 35 = .int .i64 W.length ∧ fr 36 = .int .i64 i ∧ fr 8 = .bool b ∧ fr 9 = .int .i64 i ∧ fr 10 = .lp L.length 0 ∧ fr 44 = subV wv 0 i ∧ fr 45 = .int .i64 i ∧ fr 46 = .int .i64 k) ∧ L'[0]? = some [wv, .int .i64 r, .int .i64 c] ∧ L'[L.length]? = some (W.getD i default).cells ∧ H' = H ∧ allN (fun k => !fitB ⟨W, r, c⟩ wl i k) k = true ∧ flagB b b0 (allN (fun k => !ovB ⟨W, r, c⟩ wl i k) k)) ⟨b0, by simp [f1, f2, f34, f35, f36, f8, hsl], keepL l0 _, by simp [Wr.cells], rfl, rfl, by simp [flagB, allN]⟩ ?_
    clear f1 f2 f34 f35 f36 f8
    rintro k hk fr L' H' ⟨b, ⟨f1, f2, f34, f35, f36, f8, f9, f10, f44, f45, f46⟩, l0', lq, e0, hz, hbz⟩
    have e0 := e0.symm
    subst e0
    simp [f1, f2, f34, f35, f36, f8, f9, f10, f44, f45, f46]
    refine cond_dec (fun ht2 => ?_) fun hfl2 => ?_
    · have ht2 : k < i := by omega
      have hk2 : k < (W.take i).length := by omega
      have hwi := g4 i ht
      have hwk := g4 k (by omega)
      have ai := hv.addr (i := (i : Int)) (by omega)
      have ak := hv.addr (i := (k : Int)) (by omega)
      simp only [Int.toNat_natCast] at ai ak
      by_cases he : wl.getD i 0 = wl.getD k 0
      · by_cases hsz : (W.getD i default).s = (W.getD k default).s
        · have hft : fitB ⟨W, r, c⟩ wl i k = false := by simp [fitB, eq_true hsz]
          have ho : ovB ⟨W, r, c⟩ wl i k = clashB ⟨W, r, c⟩ (W.getD i default) (W.getD k default) := by simp [ovB, sameB, eq_true he]
          have hz' : allN (fun k => !fitB ⟨W, r, c⟩ wl i k) (k + 1) = true := allN_step hz (by rw [hft]; rfl)
          cases b with
          | true =>
            have hb' : flagB true b0 (allN (fun k => !ovB ⟨W, r, c⟩ wl i k) (k + 1)) := by
              unfold flagB at hbz ⊢
              rw [allN_eq]
              cases b0 with
              | true => rfl
              | false =>
                simp only [Bool.false_or] at hbz ⊢
                cases ha : allN (fun k => !ovB ⟨W, r, c⟩ wl i k) k with
                | true => rw [ha] at hbz; simp at hbz
                | false => simp
            simp (disch := omega) [f1, f2, f34, f35, f36, f8, f9, f10, f44, f45, f46, hs.at hk2, wr_load hs, lastO, lastS, splice44, iz4, l0', keepL l0', lq, keepL lq, getD_take ht2, Wr.cells, ai, ak, hv.load, lpId_ept, eq_true he, eq_true hsz, wrap_i64, hz']
            exact ⟨by omega, hb'⟩
          | false =>
            simp (disch := omega) [f1, f2, f34, f35, f36, f8, f9, f10, f44, f45, f46, hs.at hk2, wr_load hs, lastO, lastS, splice44, iz4, l0', keepL l0', lq, keepL lq, getD_take ht2, Wr.cells, ai, ak, hv.load, lpId_ept, eq_true he, eq_true hsz, hw.stor]
            refine plot_clash (v := W.getD i default) (w := W.getD k default) hw hwi hwk g2 ?_
            have hb' : flagB (clashB ⟨W, r, c⟩ (W.getD i default) (W.getD k default)) b0 (allN (fun k => !ovB ⟨W, r, c⟩ wl i k) (k + 1)) := by
              unfold flagB at hbz ⊢
              rw [allN_eq, ho]
              cases b0 with
              | true => simp at hbz
              | false =>
                simp only [Bool.false_or] at hbz ⊢
                cases ha : allN (fun k => !ovB ⟨W, r, c⟩ wl i k) k with
                | false => rw [ha] at hbz; simp at hbz
                | true => simp
            simp (disch := omega) [f1, f2, f34, f35, f36, f8, f9, f10, f44, f45, f46, l0', keepL l0', lq, keepL lq, Wr.cells, wrap_i64, hz']
            refine ⟨by omega, ?_⟩
            cases hc : clashB ⟨W, r, c⟩ (W.getD i default) (W.getD k default) with
            | true => rw [hc] at hb'; exact Or.inr ⟨rfl, hb'⟩
            | false => rw [hc] at hb'; exact Or.inl ⟨rfl, hb'⟩
        · have hft : fitB ⟨W, r, c⟩ wl i k = true := by simp [fitB, sameB, eq_true he, eq_false hsz]
          have h8 : allN (fitR ⟨W, r, c⟩ wl) W.length = false := allN_not ht (allN_not ht2 (by rw [hft]; rfl))
          rw [cP_fit hval hlen hn h8] at hK
          simp (disch := omega) [f1, f2, f34, f35, f36, f8, f9, f10, f44, f45, f46, hs.at hk2, wr_load hs, lastO, lastS, splice44, iz4, l0', keepL l0', lq, keepL lq, getD_take ht2, Wr.cells, ai, ak, hv.load, lpId_ept, eq_true he, eq_false hsz]
          exact hK
      · have hft : fitB ⟨W, r, c⟩ wl i k = false := by simp [fitB, sameB, eq_false he]
        have ho : ovB ⟨W, r, c⟩ wl i k = false := by simp [ovB, sameB, eq_false he]
        have hz' : allN (fun k => !fitB ⟨W, r, c⟩ wl i k) (k + 1) = true := allN_step hz (by rw [hft]; rfl)
        have hb' : flagB b b0 (allN (fun k => !ovB ⟨W, r, c⟩ wl i k) (k + 1)) := by unfold flagB at hbz ⊢; rw [allN_eq, ho, hbz]; simp
        cases b with
        | true =>
          simp (disch := omega) [f1, f2, f34, f35, f36, f8, f9, f10, f44, f45, f46, hs.at hk2, wr_load hs, lastO, lastS, splice44, iz4, l0', keepL l0', lq, keepL lq, getD_take ht2, Wr.cells, ai, ak, hv.load, lpId_ept, eq_false he, wrap_i64, hz']
          exact ⟨by omega, hb'⟩
        | false =>
          simp (disch := omega) [f1, f2, f34, f35, f36, f8, f9, f10, f44, f45, f46, hs.at hk2, wr_load hs, lastO, lastS, splice44, iz4, l0', keepL l0', lq, keepL lq, getD_take ht2, Wr.cells, ai, ak, hv.load, lpId_ept, eq_false he, wrap_i64, hz']
          exact ⟨by omega, hb'⟩
    · have : k = i := by omega
      subst this
      have hb' : flagB b false (allN (ovR ⟨W, r, c⟩ wl) (k + 1)) := by
        unfold flagB at hbz hb ⊢
        rw [allN_eq, hbz, hb]
        simp [ovR]
      have hf' := allN_step hf hz
      cases b with
      | true =>
        simp (disch := omega) [f1, f2, f34, f35, f36, f8, f44, f45, f46, wrap_i64, l0']
        first | exact ⟨by omega, hf', hb'⟩ | exact ⟨hf', hb'⟩
      | false =>
        simp (disch := omega) [f1, f2, f34, f35, f36, f8, f44, f45, f46, wrap_i64, l0']
        first | exact ⟨by omega, hf', hb'⟩ | exact ⟨hf', hb'⟩
  · have : i = W.length := by omega
    subst this
    unfold flagB at hb
    simp [f8]
    cases hov : allN (ovR ⟨W, r, c⟩ wl) W.length with
    | true =>
      rw [cP_ok hval hlen hn hf hov] at hK
      rw [hov] at hb
      simp [hb]; exact hK
    | false =>
      rw [cP_ov hval hlen hn hf hov] at hK
      rw [hov] at hb
      simp [hb]; exact hK
theorem ref_Check (hw : LstV wrC H wv W) (hv : SlV H v wl) (hK : K (.int .i64 (checkP ⟨W, r, c⟩ wl)) H) : VCall tbl lim 34 [.agg [wv, .int .i64 r, .int .i64 c], v] H K := by
  refine VCall_fn tbl_at34 rfl ?_
  simp [vf34, hw.stor, hw.one, hv.stor]
  refine ref_Validate hw ?_
  by_cases hval : valP ⟨W, r, c⟩ = 0
  case neg =>
    rw [cP_bad hval] at hK
    simp [hval]; exact hK
  obtain ⟨g1, g2, g3, g4, g5⟩ := valP_ok hval
  simp only at g1 g2 g3 g4 g5
  by_cases hwl : wl.length = W.length
  case neg =>
    rw [cP_len hval hwl] at hK
    have d1 : ¬ (wl.length : Int) = (W.length : Int) := by omega
    simp [hval, hw.len, hv.len, hwl, d1]; exact hK
  simp [hval, hw.len, hv.len, hwl]
  refine wLoop_up W.length (fun i fr L H' => (fr 2 = .lp 0 0 ∧ fr 1 = v ∧ fr 6 = .int .i64 i) ∧ L[0]? = some [wv, .int .i64 r, .int .i64 c] ∧ H' = H ∧ allN (nnB wl) i = true) ⟨by simp, rfl, rfl, rfl⟩ ?_
  rintro i hi fr L H' ⟨⟨f2, f1, f6⟩, l0, e0, hn⟩
  have e0 := e0.symm
  subst e0
  simp [f2, f1, f6, hv.len, hwl]
  refine cond_dec (fun ht => ?_) fun hfl => ?_
  · have ht : i < W.length := by omega
    have ai := hv.addr (i := (i : Int)) (by omega)
    simp only [Int.toNat_natCast] at ai
    simp (disch := omega) [f2, f1, f6, ai, hv.load, lpId_ept]
    refine cond_dec (fun hlt => ?_) fun hlt => ?_
    · rw [cP_arg hval hwl (allN_not ht (decide_eq_false (by omega)))] at hK
      simp; exact hK
    · simp (disch := omega) [f2, f1, f6, l0, wrap_i64]
      exact ⟨by omega, allN_step hn (decide_eq_true (by omega))⟩
  have hin : i = W.length := by omega
  rw [hin] at hn
  clear hi hfl f6 hin
  simp [f2, f1]
  refine wLoop_up W.length (fun i fr L H' => (fr 2 = .lp 0 0 ∧ fr 1 = v ∧ fr 7 = .int .i64 i) ∧ L[0]? = some [wv, .int .i64 r, .int .i64 c] ∧ H' = H ∧ allN (fitR ⟨W, r, c⟩ wl) i = true) ⟨by simp [f2, f1], l0, rfl, rfl⟩ ?_
  clear f2 f1 l0
  rintro i hi fr L H' ⟨⟨f2, f1, f7⟩, l0, e0, hf⟩
  have e0 := e0.symm
  subst e0
  simp [f2, f1, f7, hv.len, hwl]
  refine cond_dec (fun ht => ?_) fun hfl => ?_
  · have ht : i < W.length := by omega
    simp [f2, f1, f7]
    refine wLoop_up i (fun k fr L H' => (fr 2 = .lp 0 0 ∧ fr 1 = v ∧ fr 7 = .int .i64 i ∧ fr 8 = .int .i64 k) ∧ L[0]? = some [wv, .int .i64 r, .int .i64 c] ∧ H' = H ∧ allN (fun k => !fitB ⟨W, r, c⟩ wl i k) k = true) ⟨by simp [f2, f1, f7], l0, rfl, rfl⟩ ?_
    clear f2 f1 f7 l0
    rintro k hk fr L H' ⟨⟨f2, f1, f7, f8⟩, l0, e0, hz⟩
    have e0 := e0.symm
    subst e0
    simp [f2, f1, f7, f8]
    refine cond_dec (fun ht2 => ?_) fun hfl2 => ?_
    · have ht2 : k < i := by omega
      have ai := hv.addr (i := (i : Int)) (by omega)
      have ak := hv.addr (i := (k : Int)) (by omega)
      simp only [Int.toNat_natCast] at ai ak
      have fi := hw.faddr (i := i) (j := 1) ht
      have fk := hw.faddr (i := k) (j := 1) (by omega)
      by_cases he : wl.getD i 0 = wl.getD k 0
      · by_cases hsz : (W.getD i default).s = (W.getD k default).s
        · have hft : fitB ⟨W, r, c⟩ wl i k = false := by simp [fitB, eq_true hsz]
          simp (disch := omega) [f2, f1, f7, f8, ai, ak, hv.load, lpId_ept, lpId_eptf, eq_true he, l0, hw.at ht, hw.at (show k < W.length by omega), fi, fk, wr_get hw, eq_true hsz, wrap_i64]
          exact ⟨by omega, allN_step hz (by rw [hft]; rfl)⟩
        · have hft : fitB ⟨W, r, c⟩ wl i k = true := by simp [fitB, sameB, eq_true he, eq_false hsz]
          have h8 : allN (fitR ⟨W, r, c⟩ wl) W.length = false := allN_not ht (allN_not ht2 (by rw [hft]; rfl))
          rw [cP_fit hval hwl hn h8] at hK
          simp (disch := omega) [f2, f1, f7, f8, ai, ak, hv.load, lpId_ept, lpId_eptf, eq_true he, l0, hw.at ht, hw.at (show k < W.length by omega), fi, fk, wr_get hw, eq_false hsz]
          exact hK
      · have hft : fitB ⟨W, r, c⟩ wl i k = false := by simp [fitB, sameB, eq_false he]
        simp (disch := omega) [f2, f1, f7, f8, ai, ak, hv.load, lpId_ept, eq_false he, l0, wrap_i64]
        exact ⟨by omega, allN_step hz (by rw [hft]; rfl)⟩
    · have : k = i := by omega
      subst this
      simp (disch := omega) [f2, f1, f7, l0, wrap_i64]
      exact ⟨by omega, allN_step hf hz⟩
  have hin : i = W.length := by omega
  rw [hin] at hf
  clear hi hfl f7 hin
  simp [f2, f1]
  refine wLoop_up W.length (fun i fr L H' => (fr 2 = .lp 0 0 ∧ fr 1 = v ∧ fr 9 = .int .i64 i) ∧ L[0]? = some [wv, .int .i64 r, .int .i64 c] ∧ H' = H ∧ allN (ovR ⟨W, r, c⟩ wl) i = true) ⟨by simp [f2, f1], l0, rfl, rfl⟩ ?_
  clear f2 f1 l0
  rintro i hi fr L H' ⟨⟨f2, f1, f9⟩, l0, e0, hv0⟩
  have e0 := e0.symm
  subst e0
  simp [f2, f1, f9, hv.len, hwl]
  refine cond_dec (fun ht => ?_) fun hfl => ?_
  · have ht : i < W.length := by omega
    simp [f2, f1, f9]
    refine wLoop_up i (fun k fr L H' => (fr 2 = .lp 0 0 ∧ fr 1 = v ∧ fr 9 = .int .i64 i ∧ fr 10 = .int .i64 k) ∧ L[0]? = some [wv, .int .i64 r, .int .i64 c] ∧ H' = H ∧ allN (fun k => !ovB ⟨W, r, c⟩ wl i k) k = true) ⟨by simp [f2, f1, f9], l0, rfl, rfl⟩ ?_
    clear f2 f1 f9 l0
    rintro k hk fr L H' ⟨⟨f2, f1, f9, f10⟩, l0, e0, hz⟩
    have e0 := e0.symm
    subst e0
    simp [f2, f1, f9, f10]
    refine cond_dec (fun ht2 => ?_) fun hfl2 => ?_
    · have ht2 : k < i := by omega
      have ai := hv.addr (i := (i : Int)) (by omega)
      have ak := hv.addr (i := (k : Int)) (by omega)
      simp only [Int.toNat_natCast] at ai ak
      by_cases he : wl.getD i 0 = wl.getD k 0
      · simp (disch := omega) [f2, f1, f9, f10, ai, ak, hv.load, lpId_ept, eq_true he, l0, hw.stor]
        refine ref_clash hw hval ht (by omega) ?_
        have ho : ovB ⟨W, r, c⟩ wl i k = clashB ⟨W, r, c⟩ (W.getD i default) (W.getD k default) := by simp [ovB, sameB, eq_true he]
        cases hc : clashB ⟨W, r, c⟩ (W.getD i default) (W.getD k default) with
        | true =>
          rw [hc] at ho
          have h10 : allN (ovR ⟨W, r, c⟩ wl) W.length = false := allN_not ht (allN_not ht2 (by rw [ho]; rfl))
          rw [cP_ov hval hwl hn hf h10] at hK
          simp
          exact hK
        | false =>
          rw [hc] at ho
          simp (disch := omega) [f2, f1, f9, f10, l0, wrap_i64]
          exact ⟨by omega, allN_step hz (by rw [ho]; rfl)⟩
      · have ho : ovB ⟨W, r, c⟩ wl i k = false := by simp [ovB, sameB, eq_false he]
        simp (disch := omega) [f2, f1, f9, f10, ai, ak, hv.load, lpId_ept, eq_false he, l0, wrap_i64]
        exact ⟨by omega, allN_step hz (by rw [ho]; rfl)⟩
    · have : k = i := by omega
      subst this
      simp (disch := omega) [f2, f1, f9, l0, wrap_i64]
      exact ⟨by omega, allN_step hv0 hz⟩
  · have : i = W.length := by omega
    subst this
    rw [cP_ok hval hwl hn hf hv0] at hK
    simp
    exact hK
end
end Go.Proofs.Ytkmcdiajcnejiaa.Vm
