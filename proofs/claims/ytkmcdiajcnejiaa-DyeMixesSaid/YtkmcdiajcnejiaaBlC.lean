/- Package dye over the machine: lists that are joined and sorted. -/
import Derived.Test.YtkmcdiajcnejiaaBlB
import Derived.Test.YtkmcdiajcnejiaaSdE
namespace Go.Proofs.Ytkmcdiajcnejiaa.Vm
open Go
set_option maxRecDepth 100000
set_option maxHeartbeats 1000000
set_option linter.unusedSimpArgs false
set_option linter.unusedVariables false
attribute [-simp] List.getD_eq_getElem?_getD
def cmpZ (a b : Int) : Int := if a < b then -1 else if b < a then 1 else 0
def ptCf (x y : Prt) : Int := if cmpZ x.l y.l ≠ 0 then cmpZ x.l y.l else if cmpZ x.t y.t ≠ 0 then cmpZ x.t y.t else cmpZ x.b y.b
theorem ptCf_le {x y : Prt} : leC ptCf x y ↔ x.l < y.l ∨ (x.l = y.l ∧ (x.t < y.t ∨ (x.t = y.t ∧ x.b ≤ y.b))) := by
  unfold leC ptCf cmpZ
  repeat' split
  all_goals omega
theorem ptCf_ordr : Ordr ptCf := ⟨fun x y z h1 h2 => by rw [ptCf_le] at *; omega, fun x y => by rw [ptCf_le, ptCf_le]; omega⟩
theorem ptCf_num {x y : Prt} (hx : okS x) (hy : okS y) (h : leC ptCf x y) : numS x ≤ numS y := by
  rw [ptCf_le] at h
  unfold okS at hx hy
  unfold numS
  omega
/-- a slice of slices -/
def vC : Cod V 1 := ⟨fun v => [v], fun _ => rfl⟩
section
variable {lim : Nat} {H : Hp} {K : V → Hp → Prop} {v w : V} {l m : List Prt} {x y u1 u2 u3 : Int}
theorem cmp_isNaN (hK : K (.bool false) H) : VCall tbl lim 110 [.int .i64 x] H K := by
  refine VCall_fn tbl_at110 rfl ?_
  simp [vf110]
  exact hK
theorem cmp_CompareZ (hK : K (.int .i64 (cmpZ x y)) H) : VCall tbl lim 95 [.int .i64 x, .int .i64 y] H K := by
  refine VCall_fn tbl_at95 rfl ?_
  simp [vf95]
  refine cmp_isNaN ?_
  simp
  refine cmp_isNaN ?_
  simp
  refine cond_dec (fun h => ?_) fun h => ?_
  · simp; simpa [cmpZ, h] using hK
  · simp
    refine cond_dec (fun h2 => ?_) fun h2 => ?_
    · simp; simpa [cmpZ, h, h2] using hK
    · simp; simpa [cmpZ, h, h2] using hK
theorem cmp_Or3 (hs : SlV H v [u1, u2, u3]) (hK : K (.int .i64 (if u1 ≠ 0 then u1 else if u2 ≠ 0 then u2 else u3)) H) : VCall tbl lim 94 [v] H K := by
  refine VCall_fn tbl_at94 rfl ?_
  have a0 := hs.addr (i := 0) (by simp)
  have a1 := hs.addr (i := 1) (by simp)
  have a2 := hs.addr (i := 2) (by simp)
  have g0 := hs.load (L := []) (i := 0) (by simp)
  have g1 := hs.load (L := []) (i := 1) (by simp)
  have g2 := hs.load (L := []) (i := 2) (by simp)
  simp [List.getD_eq_getElem?_getD] at a0 a1 a2 g0 g1 g2
  by_cases h : u1 = 0
  · subst h
    simp only [ne_eq, not_true_eq_false, if_false] at hK
    by_cases h2 : u2 = 0
    · subst h2
      simp only [ne_eq, not_true_eq_false, if_false] at hK
      by_cases h3 : u3 = 0
      · subst h3
        simp [vf94, hs.len]
        refine wLoop_round ?_
        simp [a0, g0, wrap_i64]
        refine wLoop_round ?_
        simp [a1, g1, wrap_i64]
        refine wLoop_round ?_
        simp [a2, g2, wrap_i64]
        refine wLoop_round ?_
        simp
        exact hK
      · simp [vf94, hs.len]
        refine wLoop_round ?_
        simp [a0, g0, wrap_i64]
        refine wLoop_round ?_
        simp [a1, g1, wrap_i64]
        refine wLoop_round ?_
        simp [a2, g2, wrap_i64, h3]
        exact hK
    · simp only [if_pos h2] at hK
      simp [vf94, hs.len]
      refine wLoop_round ?_
      simp [a0, g0, wrap_i64]
      refine wLoop_round ?_
      simp [a1, g1, wrap_i64, h2]
      exact hK
  · rw [if_pos h] at hK
    simp [vf94, hs.len]
    refine wLoop_round ?_
    simp [a0, g0, wrap_i64, h]
    exact hK
theorem dye_compareShades {p q : Prt} (hK : ∀ H', HX H H' → K (.int .i64 (ptCf p q)) H') : VCall tbl lim 72 [.agg [.int .i64 p.l, .int .i64 p.t, .int .i64 p.b], .agg [.int .i64 q.l, .int .i64 q.t, .int .i64 q.b]] H K := by
  refine VCall_fn tbl_at72 rfl ?_
  simp [vf72]
  refine cmp_CompareZ ?_
  simp
  refine cmp_CompareZ ?_
  simp
  refine cmp_CompareZ ?_
  simp [vbslice_some]
  have hs : SlV (H ++ [.row [.int .i64 (cmpZ p.l q.l), .int .i64 (cmpZ p.t q.t), .int .i64 (cmpZ p.b q.b)] true]) (.sl H.length 0 3 1) [cmpZ p.l q.l, cmpZ p.t q.t, cmpZ p.b q.b] := SlV.lit (l := [_, _, _]) (by rw [List.getElem?_concat_length]; rfl) rfl
  refine cmp_Or3 hs ?_
  have hK := hK _ (HX.push (x := .row [.int .i64 (cmpZ p.l q.l), .int .i64 (cmpZ p.t q.t), .int .i64 (cmpZ p.b q.b)] true))
  unfold ptCf at hK
  simp [splice]
  simpa using hK
theorem part_cmp {b : Nat} {l : List Prt} : CmpQ b 71 [] [] H l ptCf := by
  intro H' lim x y K hx hy hlen hsame hK
  show VCall tbl lim 71 [eV x, eV y] H' K
  refine VCall_fn tbl_at71 rfl ?_
  simp [vf71, eV, Prt.cells, rd43]
  refine dye_compareShades fun H2 x2 => ?_
  simp
  exact hK _ x2
theorem sort_pt {n : Nat} {u : V} {l : List Prt} (hu : OwnT n prC H u l) (hlim : lim ≤ n) (hn : n ≤ H.length) (hl : l.length < 256)
    (hK : ∀ l' H', l'.Perm l → SortR ptCf 0 l'.length l' → OwnT n prC H' u l' → H.length ≤ H'.length → (∀ b', b' < n → H'[b']? = H[b']?) → K (.tup []) H') : VCall tbl lim 70 [u, .func (.func 71) [] []] H K := by
  have hst : allStor ([] : List V) = true ∧ allStor ([] : List V) = true := ⟨rfl, rfl⟩
  cases hu with
  | nil => exact sq_sort0 (by omega) hst (hK [] H (.refl _) (fun p q _ _ h => absurd h (by simp)) .nil (Nat.le_refl _) (fun _ _ => rfl))
  | row h1 h3 =>
    rename_i b
    refine sq_sort h3 (by omega) hst part_cmp ptCf_ordr hl fun H' l' hs hso => ?_
    have hn2 := hs.n
    refine hK l' H' hs.perm (by rw [hn2]; exact hso) ?_ hs.len fun b' hb' => hs.oth b' (by omega) (by omega)
    rw [← hn2]
    exact .row h1 hs.row
theorem stor_mkslc {b o l z c : Nat} : stor (mkslc b o l z c) = true := by unfold mkslc; split <;> rfl
theorem prt_Grow {n : Nat} (hn : 0 < n ∧ n ≤ 1000) (hK : ∀ cs, cs.length = n * 4 → K (mkslc H.length 0 0 4 n) (H ++ [.row cs true])) : VCall tbl lim 91 [.snil, .int .i64 n] H K := by
  refine VCall_fn tbl_at91 rfl ?_
  have h0 : ¬ (n : Int) < 0 := by omega
  have h1 : (0 : Int) < n := by omega
  have w1 : IntKind.i64.wrap (n : Int) = n := wrap_i64 (by omega) (by omega)
  have s0 : vslC 4 .snil none (some (.int .i64 0)) = some .snil := by simp [vslC, vbounds, vint]
  have a0 : vappz 4 32 [.int .i64 0, .int .i64 0, .int .i64 0, .int .i64 0] H .snil (.int .i64 n) = some (.sl H.length 0 n 4, H ++ [.row (rowOf n [.int .i64 0, .int .i64 0, .int .i64 0, .int .i64 0]) true]) := by
    have q1 : ¬ (n : Int) = 0 := by omega
    have q2 : (0 : Int) ≤ n := by omega
    have q3 : (n : Int) < 4611686018427387904 := by omega
    have q4 : n * 32 ≤ 140737488355328 := by omega
    simp [vappz, q1, q2, q3, q4]
    omega
  have s1 : vslC 4 (.sl H.length 0 n 4) none (some (.int .i64 0)) = some (mkslc H.length 0 0 4 n) := by
    have : vbounds n none (some (.int .i64 0)) = some (0, 0) := vbounds_hi (k := .i64) (n := 0) (by omega)
    simp [vslC, this]
  have hl : (rowOf n [V.int .i64 0, .int .i64 0, .int .i64 0, .int .i64 0]).length = n * 4 := by
    show (List.replicate n _).flatten.length = n * 4
    simp
  have := hK _ hl
  simp (disch := omega) [vf91, h0, h1, wrap_i64, s0, a0, s1, iz4]
  refine cond_dec (fun _ => ?_) fun h => by omega
  simp (disch := omega) [h0, h1, wrap_i64, s0, a0, s1, iz4, stor_mkslc]
  exact this
/-- the first of some lists, joined -/
def joinN (Ls : List (List Prt)) (i : Nat) : List Prt := (Ls.take i).flatten
theorem joinN_succ {Ls : List (List Prt)} {i : Nat} (hi : i < Ls.length) : joinN Ls (i + 1) = joinN Ls i ++ Ls.getD i [] := by
  unfold joinN
  rw [List.take_add_one, List.getElem?_eq_getElem hi, List.getD_eq_getElem?_getD, List.getElem?_eq_getElem hi, List.flatten_append]
  simp only [Option.toList_some, List.flatten_cons, List.flatten_nil, List.append_nil, Option.getD_some]
theorem joinN_all {Ls : List (List Prt)} : joinN Ls Ls.length = Ls.flatten := by unfold joinN; rw [List.take_length]
theorem joinN_le {Ls : List (List Prt)} : ∀ {i : Nat}, i ≤ Ls.length → ∀ {j : Nat}, j ≤ i → (joinN Ls j).length ≤ (joinN Ls i).length
  | 0, _, j, hj => by have : j = 0 := by omega
                      subst this; exact Nat.le_refl _
  | i + 1, hi, j, hj => by
    by_cases e : j = i + 1
    · subst e; exact Nat.le_refl _
    · have := joinN_le (Ls := Ls) (i := i) (by omega) (j := j) (by omega)
      rw [joinN_succ (by omega), List.length_append]; omega
/-- append where there is room -/
theorem apc_room {b k n : Nat} {cs : List V} (hb : b = H.length) (hm : LstV prC (H ++ [.row cs true]) v m) (h0 : 0 < m.length) (hk : k + m.length ≤ n) (hc : cs.length = n * 4) (hlim : lim ≤ H.length) :
    vappC false lim 4 32 (H ++ [.row cs true]) (mkslc b 0 k 4 n) v = some (mkslc b 0 (k + m.length) 4 n, H ++ [.row (splice cs (k * 4) (prC.all m)) true]) := by
  subst hb
  have hne : ¬ k = n := by omega
  have hg : (H ++ [Blk.row cs true])[H.length]? = some (.row cs true) := by simp
  have hal : (prC.all m).length = m.length * 4 := Cod.all_len
  have hle : 0 + k * 4 + (prC.all m).length ≤ cs.length := by rw [hal, hc]; omega
  have hst : vstoreH lim (H ++ [.row cs true]) H.length (0 + k * 4) (prC.all m) = some (H ++ [.row (splice cs (k * 4) (prC.all m)) true]) := by
    simp only [vstoreH, hlim, if_true, hg, hle]
    simp
  have hk0 : ¬ (m.length : Int) = 0 := by omega
  have e1 : mkslc H.length 0 k 4 n = .slc H.length 0 k 4 n := if_neg hne
  rw [e1]
  simp only [vappC, hm.cells, hm.len, true_and, Int.toNat_natCast, hk, if_true, hk0, if_false, hst, Bool.false_eq_true]
theorem prt_Concat {b : V} {vs : List V} {Ls : List (List Prt)} (hb : LstV vC H b vs) (hlen : vs.length = Ls.length) (hL : ∀ i, i < Ls.length → LstV prC H (vs.getD i default) (Ls.getD i []) ∧ 0 < (Ls.getD i []).length) (h0 : 0 < Ls.length ∧ Ls.length ≤ 10) (hl : Ls.flatten.length ≤ 1000) (hlim : lim ≤ H.length)
    (hK : ∀ H' v', HX H H' → OwnT H.length prC H' v' Ls.flatten → K v' H') : VCall tbl lim 69 [b] H K := by
  refine VCall_fn tbl_at69 rfl ?_
  have hjl : ∀ j, j ≤ Ls.length → (joinN Ls j).length ≤ Ls.flatten.length := fun j hj => by rw [← joinN_all]; exact joinN_le (Nat.le_refl _) hj
  simp [vf69, hb.len]
  refine wLoop_up Ls.length (fun i fr L H' => (fr 0 = b ∧ fr 9 = b ∧ fr 10 = .int .i64 Ls.length ∧ fr 11 = .int .i64 i ∧ fr 3 = .int .i64 (joinN Ls i).length) ∧ H' = H) ⟨by simp [hb.len, hlen, joinN], rfl⟩ ?_
  rintro i hi fr L H' ⟨⟨f0, f9, f10, f11, f3⟩, e0⟩
  have e0 := e0.symm
  subst e0
  simp [f0, f9, f10, f11, f3]
  refine cond_dec (fun ht => ?_) fun hfl => ?_
  · have ht : i < Ls.length := by omega
    obtain ⟨hv, hp⟩ := hL i ht
    have hj1 := hjl (i + 1) (by omega)
    have hjs := joinN_succ (Ls := Ls) ht
    have hjn : (joinN Ls (i + 1)).length = (joinN Ls i).length + (Ls.getD i []).length := by rw [hjs, List.length_append]
    have gl : vload none L H (ept 1 b i) = some (vs.getD i default) := hb.load1 (by omega)
    have ad := hb.at (i := i) (by omega)
    have hlt : ¬ ((joinN Ls i).length : Int) + (Ls.getD i []).length < 0 := by omega
    simp (disch := omega) [f0, f9, f10, f11, f3, ad, gl, lpId_ept, hv.len, wrap_i64]
    refine cond_dec (fun h => by omega) fun _ => ?_
    simp (disch := omega) [f0, f9, f10, f11, f3, wrap_i64, hjn]
    omega
  have hin : i = Ls.length := by omega
  subst hin
  have hpos : 0 < Ls.flatten.length := by
    obtain ⟨_, hp⟩ := hL 0 h0.1
    have hj := hjl 1 (by omega)
    have := joinN_succ (Ls := Ls) (i := 0) h0.1
    rw [this, List.length_append] at hj
    omega
  clear hi hfl f9 f10 f11
  rw [joinN_all] at f3
  generalize hn : Ls.flatten.length = n at *
  simp [f0, f3]
  refine prt_Grow ⟨hpos, hl⟩ fun cs hcs => ?_
  have hb1 : LstV vC (H ++ [.row cs true]) b vs := hb.mono HX.push
  simp [f0, f3, hb.len]
  refine wLoop_up Ls.length (fun i fr L H' => ∃ cs, (fr 25 = b ∧ fr 26 = .int .i64 Ls.length ∧ fr 27 = .int .i64 i ∧ fr 6 = mkslc H.length 0 (joinN Ls i).length 4 n) ∧ H' = H ++ [.row cs true] ∧ cs.length = n * 4 ∧ cs.take ((joinN Ls i).length * 4) = prC.all (joinN Ls i)) ⟨cs, by simp [f0, hb.len, hlen, joinN], rfl, hcs, by simp [joinN, Cod.all]⟩ ?_
  clear f0 f3
  rintro i hi fr L H' ⟨cs, ⟨f25, f26, f27, f6⟩, e0, hc, htk⟩
  subst e0
  simp [f25, f26, f27, f6]
  refine cond_dec (fun ht => ?_) fun hfl => ?_
  · have ht : i < Ls.length := by omega
    obtain ⟨hv, hp⟩ := hL i ht
    have hj1 := hjl (i + 1) (by omega)
    have hjs := joinN_succ (Ls := Ls) ht
    have hjn : (joinN Ls (i + 1)).length = (joinN Ls i).length + (Ls.getD i []).length := by rw [hjs, List.length_append]
    have hb2 : LstV vC (H ++ [.row cs true]) b vs := hb.mono HX.push
    have hv2 : LstV prC (H ++ [.row cs true]) (vs.getD i default) (Ls.getD i []) := hv.mono HX.push
    have gl : vload none L (H ++ [.row cs true]) (ept 1 b i) = some (vs.getD i default) := hb2.load1 (by omega)
    have ad := hb2.at (i := i) (by omega)
    have hap := apc_room (lim := lim) (b := H.length) (k := (joinN Ls i).length) (n := n) rfl hv2 hp (by omega) hc hlim
    simp (disch := omega) [f25, f26, f27, f6, ad, gl, lpId_ept, hap, wrap_i64, hjn]
    have hal : (prC.all (Ls.getD i [])).length = (Ls.getD i []).length * 4 := Cod.all_len
    refine ⟨by omega, ?_, ?_⟩
    · simp only [splice, List.length_append, List.length_take, List.length_drop, hal]
      omega
    · rw [hjs, Cod.all_append, ← htk]
      simp only [splice]
      have hl1 : (cs.take ((joinN Ls i).length * 4)).length = (joinN Ls i).length * 4 := by rw [List.length_take]; omega
      rw [List.take_append_of_le_length (by rw [List.length_append, hl1, hal]; omega), List.take_of_length_le (by rw [List.length_append, hl1, hal]; omega)]
  · have hin : i = Ls.length := by omega
    subst hin
    rw [joinN_all, hn] at f6 htk
    have e1 : mkslc H.length 0 n 4 n = .sl H.length 0 n 4 := if_pos rfl
    rw [e1] at f6
    have hcs2 : cs = prC.all Ls.flatten := by rw [← htk, List.take_of_length_le (by omega)]
    have := hK (H ++ [.row cs true]) (.sl H.length 0 n 4) HX.push (by rw [hcs2, ← hn]; exact OwnT.new (Nat.le_refl _))
    simp [f6]
    exact this
end
end Go.Proofs.Ytkmcdiajcnejiaa.Vm
