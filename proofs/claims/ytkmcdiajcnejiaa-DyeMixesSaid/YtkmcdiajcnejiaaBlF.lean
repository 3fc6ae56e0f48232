/- Package dye over the machine: a blend in small weights. -/
import Derived.Test.YtkmcdiajcnejiaaBlE
namespace Go.Proofs.Ytkmcdiajcnejiaa.Vm
open Go
set_option maxRecDepth 100000
set_option maxHeartbeats 1000000
set_option linter.unusedSimpArgs false
set_option linter.unusedVariables false
attribute [-simp] List.getD_eq_getElem?_getD
/-- the greatest common divisor of the first weights -/
def gN (L : List Prt) : Nat → Nat
  | 0 => 0
  | n + 1 => Nat.gcd (gN L n) (L.getD n default).w.toNat
theorem gN_pos {L : List Prt} : ∀ {n : Nat}, 0 < n → n ≤ L.length → (∀ i, i < L.length → 1 ≤ (L.getD i default).w) → 0 < gN L n
  | n + 1, _, hn, h => by
    have := h n (by omega)
    exact Nat.gcd_pos_of_pos_right _ (by omega)
def dvW (g : Nat) (p : Prt) : Prt := ⟨p.l, p.t, p.b, p.w.tdiv g⟩
def ltB (g : Nat) (L : List Prt) (i : Nat) : Bool := decide ((dvW g (L.getD i default)).w ≤ 1000)
def nrmP (L : List Prt) : List Prt × Int :=
  if 6 < L.length then ([], 4) else if allN (ltB (gN L L.length) L) L.length = true then (L.map (dvW (gN L L.length)), 0) else ([], 4)
theorem splice_front {A R xs : List V} {o : Nat} (h : o + xs.length ≤ A.length) : splice (A ++ R) o xs = splice A o xs ++ R := by
  simp only [splice]
  rw [List.take_append_of_le_length (by omega), List.drop_append_of_le_length (by omega), List.append_assoc, List.append_assoc, List.append_assoc]
def setW (p : Prt) (x : Int) : Prt := ⟨p.l, p.t, p.b, x⟩
theorem all_setW {l : List Prt} {i : Nat} {x : Int} (hi : i < l.length) : splice (prC.all l) (i * 4 + 3) [.int .i64 x] = prC.all (l.set i (setW (l.getD i default) x)) := by
  have o : OwnT 0 prC [.row (prC.all l) true] (.sl 0 0 l.length 4) l := .row (by omega) rfl
  have := o.store (lim := 0) (i := i) (j := 3) (x := .int .i64 x) (y := setW (l.getD i default) x) (L := []) (sz := 1) (by omega) hi rfl rfl (by omega) (by simp [prC, Prt.cells, splice, cellsV, setW])
  have hle : i * 4 + 3 + 1 ≤ (prC.all l).length := by rw [Cod.all_len]; omega
  have hs : stor (.int .i64 x) = true := rfl
  have hc : cellsV (.int .i64 x) = [.int .i64 x] := rfl
  simp only [vstore, eptf, hs, if_true, hc, List.length_singleton, vstoreH, Nat.zero_le, List.getElem?_cons_zero, hle, setH, List.set_cons_zero, Option.some.injEq, Prod.mk.injEq, true_and, List.cons.injEq, Blk.row.injEq, and_true, Nat.zero_add] at this
  exact this
section
variable {lim : Nat} {H : Hp} {K : V → Hp → Prop} {v w : V} {l m : List Prt} {x y u1 u2 u3 : Int}
/-- a row of one's own, its front and its rest -/
structure RowP (n : Nat) (H : Hp) (v : V) (l : List Prt) (R : List V) : Prop where
  row : ∃ b, n ≤ b ∧ v = .sl b 0 l.length 4 ∧ H[b]? = some (.row (prC.all l ++ R) true)
theorem PreT.cut {n : Nat} (h : PreT n H v l) (h0 : 0 < l.length) : ∃ R, RowP n H v l R := by
  cases h with
  | nil => simp at h0
  | row h1 h2 h3 h4 =>
    rename_i b cs
    refine ⟨cs.drop (l.length * 4), ⟨b, h1, rfl, ?_⟩⟩
    rw [← h4, List.take_append_drop]
    exact h2
variable {n : Nat} {R : List V}
theorem RowP.put (h : RowP n H v l R) (hm : m.length = l.length) : RowP n (setH H v (prC.all m ++ R)) v m R := by
  obtain ⟨b, h1, rfl, h2⟩ := h
  have hb := (List.getElem?_eq_some_iff.1 h2).1
  exact ⟨b, h1, by rw [hm], by simp only [setH]; exact List.getElem?_set_self hb⟩
theorem RowP.pre (h : RowP n H v l R) : PreT n H v l := by
  obtain ⟨b, h1, rfl, h2⟩ := h
  exact .row h1 h2 (by rw [List.length_append, Cod.all_len]; omega) (by rw [List.take_append_of_le_length (by rw [Cod.all_len]; omega), List.take_of_length_le (by rw [Cod.all_len]; omega)])
theorem RowP.store (h : RowP n H v l R) (hlim : lim ≤ n) {i : Nat} (hi : i < l.length) (x : Int) (L : Lo) : vstore lim L H (eptf 4 v i 3) (.int .i64 x) 1 = some (L, setH H v (prC.all (l.set i (setW (l.getD i default) x)) ++ R)) := by
  obtain ⟨b, h1, rfl, h2⟩ := h
  have hal : (prC.all l).length = l.length * 4 := Cod.all_len
  have hs : stor (.int .i64 x) = true := rfl
  have hc : cellsV (.int .i64 x) = [.int .i64 x] := rfl
  have hle : 0 + i * 4 + 3 + 1 ≤ (prC.all l ++ R).length := by rw [List.length_append, hal]; omega
  have e : splice (prC.all l ++ R) (0 + i * 4 + 3) [.int .i64 x] = prC.all (l.set i (setW (l.getD i default) x)) ++ R := by
    rw [splice_front (by rw [hal]; simp; omega), Nat.zero_add, all_setW hi]
  simp only [vstore, eptf, hs, if_true, hc, List.length_singleton, vstoreH, show lim ≤ b by omega, h2, hle, e, setH]
theorem RowP.old (h : RowP n H v l R) {cs : List V} {b' : Nat} (hb : b' < n) : (setH H v cs)[b']? = H[b']? := by
  obtain ⟨b, h1, rfl, h2⟩ := h
  simp only [setH]
  rw [List.getElem?_set_ne (by omega)]
theorem RowP.twice (h : RowP n H v l R) {cs ds : List V} : setH (setH H v cs) v ds = setH H v ds := by
  obtain ⟨b, h1, rfl, h2⟩ := h
  simp only [setH, List.set_set]
theorem RowP.same (h : RowP n H v l R) : setH H v (prC.all l ++ R) = H := by
  obtain ⟨b, h1, rfl, h2⟩ := h
  exact set_same h2
theorem RowP.len2 (h : RowP n H v l R) {cs : List V} : (setH H v cs).length = H.length := by
  obtain ⟨b, h1, rfl, h2⟩ := h
  simp [setH]
theorem dye_normal (hp : PreT n H v l) (hlim : lim ≤ n) (hl : l.length ≤ 1000) (hw : ∀ i, i < l.length → 1 ≤ (l.getD i default).w ∧ (l.getD i default).w ≤ 1000000000000000)
    (hK : ∀ H' v', H'.length = H.length → (∀ b, b < n → H'[b]? = H[b]?) → PreT n H' v' (nrmP l).1 → K (.tup [v', .int .i64 (nrmP l).2]) H') : VCall tbl lim 42 [v] H K := by
  refine VCall_fn tbl_at42 rfl ?_
  have e6 : decide (6 < (l.length : Int)) = decide (6 < l.length) := by simp only [decide_eq_decide]; omega
  simp [vf42, hp.lst.len]
  refine wLoop_up l.length (fun k fr L H' => (fr 0 = v ∧ fr 8 = v ∧ fr 9 = .int .i64 l.length ∧ fr 10 = .int .i64 k ∧ fr 4 = .int .i64 (gN l k : Nat)) ∧ H' = H) ⟨by simp [hp.lst.len, gN], rfl⟩ ?_
  rintro k hk fr L H' ⟨⟨f0, f8, f9, f10, f4⟩, e0⟩
  have e0 := e0.symm
  subst e0
  simp [f0, f8, f9, f10, f4]
  refine cond_dec (fun ht => ?_) fun hfl => ?_
  · have ht : k < l.length := by omega
    have ld := fun L => prt_load hp.lst ht (L := L)
    have hwk := hw k ht
    have hg1 : gN l (k + 1) = Nat.gcd (gN l k) (l.getD k default).w.toNat := rfl
    obtain ⟨wn, hwn⟩ : ∃ wn : Nat, (l.getD k default).w = wn := ⟨(l.getD k default).w.toNat, by omega⟩
    have hwt : (l.getD k default).w.toNat = wn := by omega
    rw [hwt] at hg1
    rw [hwn] at ld
    simp (disch := omega) [f0, f8, f9, f10, f4, hp.lst.at ht, ld, lpId_ept, lastO, lastS, splice44, iz4, rd4_3]
    refine dye_gcd ?_
    rw [← hg1]
    simp (disch := omega) [f0, f8, f9, f10, wrap_i64]
    omega
  have hkl : k = l.length := by omega
  subst hkl
  clear hk hfl f8 f9 f10
  by_cases h6 : 6 < l.length
  · have e : nrmP l = ([], 4) := by unfold nrmP; rw [if_pos h6]
    have := hK H .snil rfl (fun _ _ => rfl) (by rw [e]; exact .nil)
    rw [e] at this
    simp [f0, hp.lst.len, e6, h6]
    exact this
  simp [f0, hp.lst.len, e6, h6]
  by_cases h0 : l.length = 0
  · have hl0 : l = [] := List.length_eq_zero_iff.1 h0
    subst hl0
    have := hK H v rfl (fun _ _ => rfl) hp
    refine wLoop_round ?_
    have hlen := hp.lst.len
    have hst := hp.lst.stor
    simp [f0, hlen, hst]
    exact this
  obtain ⟨R, hR⟩ := hp.cut (by omega)
  have hgp := gN_pos (L := l) (n := l.length) (by omega) (Nat.le_refl _) fun i hi => (hw i hi).1
  generalize hg : gN l l.length = g at *
  refine wLoop_up l.length (fun i fr L H' => ∃ M, (fr 0 = v ∧ fr 4 = .int .i64 (g : Nat) ∧ fr 23 = .int .i64 l.length ∧ fr 24 = .int .i64 i) ∧ H' = setH H v (prC.all M ++ R) ∧ M.length = l.length ∧ (∀ j, M.getD j default = if j < i then dvW g (l.getD j default) else l.getD j default) ∧ allN (ltB g l) i = true) ⟨l, by simp [f0, f4, hp.lst.len], hR.same.symm, rfl, fun j => by simp, rfl⟩ ?_
  clear f0 f4
  rintro i hi fr L H' ⟨M, ⟨f0, f4, f23, f24⟩, e0, hM, hMj, hall⟩
  subst e0
  have hR2 := hR.put (m := M) hM
  simp [f0, f4, f23, f24]
  refine cond_dec (fun ht => ?_) fun hfl => ?_
  · have ht : i < l.length := by omega
    have hwi := hw i ht
    have hMi : M.getD i default = l.getD i default := by rw [hMj i, if_neg (by omega)]
    have ad := hR2.pre.lst.at (i := i) (by omega)
    have fa3 : vfaddr 3 (ept 4 v i) = some (eptf 4 v i 3) := hR2.pre.lst.faddr (by omega)
    have gw := fun L => prt_get hR2.pre.lst (i := i) (j := 3) (by omega) (by omega) (L := L)
    have hq1 : 0 ≤ (l.getD i default).w.tdiv g ∧ (l.getD i default).w.tdiv g ≤ (l.getD i default).w := by
      rw [Int.tdiv_eq_ediv_of_nonneg (by omega)]
      exact ⟨Int.ediv_nonneg (by omega) (by omega), Int.ediv_le_self _ (by omega)⟩
    have hdw : (dvW g (l.getD i default)).w = (l.getD i default).w.tdiv g := rfl
    have hg0 : ¬ (g : Int) = 0 := by omega
    have sw := fun L => hR2.store (lim := lim) hlim (i := i) (by omega) ((l.getD i default).w.tdiv g) L
    simp only [hR.twice] at sw
    have hMs : M.set i (setW (M.getD i default) ((l.getD i default).w.tdiv g)) = M.set i (dvW g (l.getD i default)) := by rw [hMi]; rfl
    simp only [hMs] at sw
    have hM3 : (M.set i (dvW g (l.getD i default))).length = l.length := by simpa using hM
    have hR3 := hR.put (m := M.set i (dvW g (l.getD i default))) hM3
    have ad3 := hR3.pre.lst.at (i := i) (by omega)
    have gw3 := fun L => prt_get hR3.pre.lst (i := i) (j := 3) (by omega) (by omega) (L := L)
    have hget : (M.set i (dvW g (l.getD i default))).getD i default = dvW g (l.getD i default) := by
      rw [List.getD_eq_getElem?_getD, List.getElem?_set_self (by omega)]; rfl
    simp only [hget, hdw] at gw3
    simp only [hMi] at gw
    generalize hqq : (l.getD i default).w.tdiv g = qq at *
    have hwq : IntKind.i64.wrap qq = qq := wrap_i64 (by omega) (by omega)
    simp (disch := omega) [f0, f4, f23, f24, ad, fa3, gw, lpId_ept, lpId_eptf, rd4_3, hg0, hqq, hwq, sw, ad3, gw3, -vstore]
    refine cond_dec (fun hbig => ?_) fun hbig => ?_
    · have hno : allN (ltB g l) l.length = false := allN_not ht (by simp only [ltB, hdw, hqq]; exact decide_eq_false (by omega))
      have e : nrmP l = ([], 4) := by unfold nrmP; rw [if_neg h6, hg, if_neg (by rw [hno]; simp)]
      have := hK (setH H v (prC.all (M.set i (dvW g (l.getD i default))) ++ R)) .snil hR.len2 (fun b hb => hR.old hb) (by rw [e]; exact .nil)
      rw [e] at this
      simp
      exact this
    · simp (disch := omega) [f0, f4, f23, f24, wrap_i64]
      refine ⟨by omega, M.set i (dvW g (l.getD i default)), rfl, hM3, fun j => ?_, ?_⟩
      · by_cases e : j = i
        · subst e; rw [hget, if_pos (by omega)]
        · have : (M.set i (dvW g (l.getD i default))).getD j default = M.getD j default := by
            rw [List.getD_eq_getElem?_getD, List.getElem?_set_ne (fun h => e h.symm), ← List.getD_eq_getElem?_getD]
          rw [this, hMj j]
          by_cases hji : j < i
          · rw [if_pos hji, if_pos (by omega)]
          · rw [if_neg hji, if_neg (by omega)]
      · simp only [allN, hall, Bool.true_and, ltB, hdw, hqq]
        exact decide_eq_true (by omega)
  · have hil : i = l.length := by omega
    subst hil
    have hMe : M = l.map (dvW g) := by
      refine same_of (by simpa using hM) fun j hj => ?_
      rw [hMj j, if_pos (by omega), List.getD_eq_getElem?_getD, List.getD_eq_getElem?_getD, List.getElem?_map, List.getElem?_eq_getElem (by omega)]
      rfl
    have e : nrmP l = (M, 0) := by unfold nrmP; rw [if_neg h6, hg, if_pos hall, hMe]
    have := hK (setH H v (prC.all M ++ R)) v hR.len2 (fun b hb => hR.old hb) (by rw [e]; exact hR2.pre)
    rw [e] at this
    have hst := hR2.pre.lst.stor
    simp [f0, hst]
    exact this
end
end Go.Proofs.Ytkmcdiajcnejiaa.Vm
