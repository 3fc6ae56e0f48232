/- slices.Insert at lists of edges: the hand-written code is the program's. -/
import Derived.Test.YtnfhccioglpjhaaVmPrimFB
namespace Go.Proofs.Ytnfhccioglpjhaa.Vm
open Go Go.Shelf Go.RowKit Go.Lib
set_option maxRecDepth 100000
set_option linter.unusedSimpArgs false
set_option linter.unusedVariables false
attribute [-simp] List.getD_eq_getElem?_getD
theorem vrs_three {ρ : Loc} {u v z : V} {xs : Array Value} (h : VRs ρ [u, v, z] xs.toList) : ∃ a b c, xs = #[a, b, c] ∧ VR ρ u a ∧ VR ρ v b ∧ VR ρ z c := by
  obtain ⟨l⟩ := xs
  obtain ⟨h1, h2⟩ := h
  match l, h1 with
  | [a, b, c], _ => exact ⟨a, b, c, rfl, h2 0 (by simp), h2 1 (by simp), h2 2 (by simp)⟩
theorem ask_cases {x i y : V} {H : Hp} (h : askIns [x, i, y] H = true) : ∃ vb vo k, y = .sl vb vo 1 3 ∧ i = .int .i64 k ∧ (∃ csY, H[vb]? = some (.row csY true)) ∧ (x = .snil ∧ k = 0 ∨ ∃ b n, x = .sl b 0 n 3 ∧ 0 ≤ k ∧ k ≤ (n : Int) ∧ vb ≠ b ∧ n ≤ 1000000) := by
  unfold askIns at h
  split at h

  · rename_i k vb vo e1
    simp only [List.cons.injEq, and_true] at e1
    obtain ⟨rfl, rfl, rfl⟩ := e1
    simp only [Bool.and_eq_true, decide_eq_true_eq] at h
    refine ⟨vb, vo, k, rfl, rfl, ?_, Or.inl ⟨rfl, h.2⟩⟩
    have h1 := h.1
    split at h1
    · rename_i cs e; exact ⟨cs, e⟩
    · cases h1
  · rename_i b n k vb vo e1
    simp only [List.cons.injEq, and_true] at e1
    obtain ⟨rfl, rfl, rfl⟩ := e1
    simp only [Bool.and_eq_true, decide_eq_true_eq] at h
    refine ⟨vb, vo, k, rfl, rfl, ?_, Or.inr ⟨b, n, rfl, h.2⟩⟩
    have h1 := h.1
    split at h1
    · rename_i cs e; exact ⟨cs, e⟩
    · cases h1
  · cases h
theorem lam_none {lim : Nat} {tg : Nat → Prop} {ρ ρ' : Loc} {lam' : Lam} {H H' : Hp} {w w' : World} (h : Grow lim tg ρ (fun _ => none) [] H w ρ' lam' [] H' w') : lam' = fun _ => none := by
  funext i
  exact h.extL i (Or.inr (by simp))
/-- append, as the program's builtin runs -/
theorem app_run {ρ : Loc} {w : World} {H H1 : Hp} {lim : Nat} {x y v : V} {X Y : Value} (hX : VR ρ x X) (hY : VR ρ y Y) (hH : RelH ρ H w) (h3 : vappend lim 3 24 H x y = some (v, H1)) (hfR : FreeR ρ H.length H1.length) (hv : ∀ id off, v ≠ .lp id off) (hv2 : v ≠ .hid) :
    ∃ x' ρ' w', (Builtin.append_ #[23, 23] 23 #[X, Y]).run Try.prog w = .ok x' w' ∧ VR ρ' v x' ∧ Grow lim (fun _ => True) ρ (fun _ => none) [] H w ρ' (fun _ => none) [] H1 w' ∧ RelH ρ' H1 w' := by
  have hL : RelL (fun _ => True) ρ (fun _ => none) [] w := ⟨fun i r h => by simp at h, fun i j r h => by simp at h, fun id r b o c h => by simp at h, fun id r cs _ h => by simp at h⟩
  obtain ⟨i0, hi0, hz0, hzs, hzb⟩ := info29
  obtain ⟨x', ρ', lam', w', hrun, hfv, hg, hh, _⟩ := sim_append (P := Try.prog) (lim := lim) (tg := fun _ => True) (ty := 23) (s := do pure (Next.value (← Builtin.append_ #[23, 23] 23 #[X, Y]))) t23 t23 hi0 hz0 (by rw [hzs]; rfl) (by omega) (.vr hX) (.vr hY) (by simp [Sem.run_bind]) hH hL (by rw [hzs, hzb]; exact h3) hfR
  have := lam_none hg
  subst this
  have hr : (Builtin.append_ #[23, 23] 23 #[X, Y]).run Try.prog w = .ok x' w' := by
    simp only [Sem.run_bind, Sem.run_pure] at hrun
    cases hq : (Builtin.append_ #[23, 23] 23 #[X, Y]).run Try.prog w with
    | ok a b =>
      rw [hq] at hrun
      simp [Result.andThen] at hrun
      rw [hrun.1, hrun.2]
    | _ => rw [hq] at hrun; simp [Result.andThen] at hrun
  exact ⟨x', ρ', w', hr, hfv.vr_of hv hv2, hg, hh⟩
theorem vapp_sl {lim : Nat} {H H1 : Hp} {b n : Nat} {y v : V} {vb vo : Nat} (hy : y = .sl vb vo 1 3) (h : vappend lim 3 24 H (.sl b 0 n 3) y = some (v, H1)) :
    ∃ cs new, lim ≤ b ∧ H[b]? = some (.row cs true) ∧ cs.length = n * 3 ∧ vcells 3 H y = some new ∧ v = .sl H.length 0 (n + 1) 3 ∧ H1 = H.set b .dead ++ [.row (cs ++ new) true] := by
  subst hy
  unfold vappend at h
  split at h
  case h_2 => cases h
  rename_i new kk k hcell hk
  simp [vlenS] at hk
  obtain ⟨rfl, rfl⟩ := hk
  simp only at h
  split at h
  case isFalse => cases h
  rename_i hlim
  split at h
  case h_2 => cases h
  rename_i cs hb
  split at h
  case isFalse => cases h
  rename_i hl
  split at h
  case isFalse => cases h
  split at h
  case isFalse => cases h
  cases h
  exact ⟨cs, new, hlim.2.2, hb, hl, hcell, by simp, rfl⟩

theorem copy_row {lim : Nat} {H1 H2 : Hp} {N off m m2 : Nat} {src c : V} {cs xs : List V} (hb : H1[N]? = some (.row cs true)) (hs : vcells 3 H1 src = some xs) (hn : vlenS src = some (.int .i64 (m : Int))) (hx : xs.length = m * 3) (hle : m ≤ m2) (h0 : 0 < m)
    (h : vcopy lim 3 H1 (.sl N off m2 3) src = some (c, H2)) : H2 = H1.set N (.row (splice cs off xs) true) := by
  unfold vcopy at h
  rw [hn] at h
  simp only [vlenS, hs, Int.toNat_natCast] at h
  rw [if_neg (by omega)] at h
  simp only [if_true] at h
  rw [Nat.min_eq_left hle, List.take_of_length_le (by omega)] at h
  unfold vstoreH at h
  split at h
  case h_2 => cases h
  rename_i H' hst
  split at hst
  case isFalse => cases hst
  rw [hb] at hst
  simp only at hst
  split at hst
  case isFalse => cases hst
  cases hst; cases h; rfl
theorem splice_two {cs new : List V} {n k : Nat} (hcs : cs.length = n * 3) (hn : new.length = 3) (hk : k < n) :
    splice (splice (cs ++ new) ((k + 1) * 3) (cs.drop (k * 3))) (k * 3) new = cs.take (k * 3) ++ new ++ cs.drop (k * 3) := by
  have hdl : (cs.drop (k * 3)).length = (n - k) * 3 := by rw [List.length_drop, hcs]; omega
  have e1 : splice (cs ++ new) ((k + 1) * 3) (cs.drop (k * 3)) = (cs ++ new).take ((k + 1) * 3) ++ cs.drop (k * 3) := by
    unfold splice
    have : (cs ++ new).drop ((k + 1) * 3 + (cs.drop (k * 3)).length) = [] := List.drop_of_length_le (by rw [List.length_append]; omega)
    rw [this, List.append_nil]
  rw [e1]
  unfold splice
  have l1 : ((cs ++ new).take ((k + 1) * 3)).length = (k + 1) * 3 := by rw [List.length_take, List.length_append]; omega
  rw [List.take_append_of_le_length (by omega), List.take_take, Nat.min_eq_left (by omega), List.take_append_of_le_length (by omega), hn]
  congr 1
  rw [List.drop_append, l1, List.drop_of_length_le (by omega)]
  have : k * 3 + 3 - (k + 1) * 3 = 0 := by omega
  rw [this]; simp
theorem hok_ins : HandOk Try.prog 27 insV := by
  refine ⟨by kernel_rfl, fun call n lim args H v s e _ _ hl he _ hv ρ w xs hH hG hxs hfR => ?_⟩
  obtain ⟨x, i, y, lx, rfl, h0, h1, H1, tst, h3, h2, hc⟩ := insV_run hl he hv
  obtain ⟨X, I, Y, rfl, hX, hI, hY⟩ := vrs_three hxs
  obtain ⟨vb, vo, k, rfl, rfl, ⟨csY, hyb⟩, hx⟩ := ask_cases h0
  cases hI
  obtain ⟨r2, o2, c2, cap2, hρ2, hy1, hy2, rfl⟩ := (FV.vr (lam := fun _ => none) hY).sl
  have atEnd : ∀ (hfR1 : FreeR ρ H.length H1.length) (hs1 : s.H = H1) (hvl : ∀ id off, v ≠ .lp id off) (hvh : v ≠ .hid) (n : Nat) (c : Nat) (ad : Option Addr) (hXe : X = .slice ad n c) (hke : k = n) (hn1 : n ≤ 1000000) (hnc : n ≤ c) (had : ad = none → n = 0 ∧ c = 0) (had2 : ∀ a, ad = some a → a.spot = none),
      Calls Try.prog 27 #[X, .int .i64 k, .slice (some ⟨r2, o2 + vo, none⟩) 1 cap2] w fun e w' => ∃ x ρ', e = .returned x ∧ VR ρ' v x ∧ Grow lim (fun _ => True) ρ (fun _ => none) [] H w ρ' (fun _ => none) [] s.H w' ∧ RelH ρ' s.H w' := by
    intro hfR1 hs1 hvl hvh n c ad hXe hke hn1 hnc had had2
    obtain ⟨x', ρ', w', hr, q1, q2, q3⟩ := app_run hX hY hH h3 hfR1 hvl hvh
    subst hXe hke
    rw [hs1]
    cases ad with
    | none =>
      obtain ⟨rfl, rfl⟩ := had rfl
      refine (ins_end_nil r2 (o2 + vo) 1 cap2 w w' x' (by omega) hr).mono ?_
      rintro e w2 ⟨rfl, rfl⟩
      exact ⟨x', ρ', rfl, q1, q2, q3⟩
    | some a =>
      obtain ⟨ab, ao, asp⟩ := a
      have := had2 _ rfl
      subst this
      refine (ins_end ab ao n c r2 (o2 + vo) 1 cap2 w w' x' (by omega) (by omega) hnc hr).mono ?_
      rintro e w2 ⟨rfl, rfl⟩
      exact ⟨x', ρ', rfl, q1, q2, q3⟩
  rcases hx with ⟨rfl, rfl⟩ | ⟨b, n, rfl, hk0, hkn, hvb, hn1⟩
  · -- nil
    have hXe := (FV.vr (lam := fun _ => none) hX).snil
    simp [vlenS] at h1
    subst h1
    simp [vbin, isShift] at h2
    have h2' : tst = .bool true := by
      simpa using h2.symm
    subst h2'
    rcases hc with ⟨_, hs1⟩ | ⟨hc, _⟩
    · have hv1 : v = .sl H.length 0 1 3 := by
        unfold vappend at h3
        split at h3
        case h_2 => cases h3
        rename_i new kk k hcell hk
        simp [vlenS] at hk
        obtain ⟨rfl, rfl⟩ := hk
        simp at h3
        exact h3.1.symm
      subst hv1
      exact atEnd (by rw [← hs1]; exact hfR) hs1 (by intro _ _ h; cases h) (by intro h; cases h) 0 0 none hXe rfl (by omega) (by omega) (fun _ => ⟨rfl, rfl⟩) (fun _ h => by cases h)
    · cases hc
  obtain ⟨r, o, c, cap, hρ, hx1, hx2, rfl⟩ := (FV.vr (lam := fun _ => none) hX).sl
  obtain ⟨cs, new, hlim, hb, hcs, hnew, rfl, rfl⟩ := vapp_sl rfl h3
  simp [vlenS] at h1
  subst h1
  by_cases hkn2 : k = n
  · -- at the end
    have h2' : tst = .bool true := by
      subst hkn2
      simp [vbin, isShift] at h2
      simpa using h2.symm
    subst h2'
    rcases hc with ⟨_, hs1⟩ | ⟨hc, _⟩
    · exact atEnd (by rw [← hs1]; exact hfR) hs1 (by intro _ _ h; cases h) (by intro h; cases h) n cap (some ⟨r, o + 0, none⟩) rfl hkn2 (by omega) hx1 (fun h => by cases h) (fun a h => by cases h; rfl)
    · cases hc
  -- in the middle
  obtain ⟨kk, rfl⟩ : ∃ m : Nat, k = m := ⟨k.toNat, by omega⟩
  have hkk : kk < n := by omega
  rcases hc with ⟨rfl, _⟩ | ⟨rfl, i1, d1, s1, c1, H2, d2, c2', g1, g2, g3, g4, g5, g6⟩
  · exfalso
    simp [vbin, isShift] at h2
    omega
  have hN : (H.set b Blk.dead ++ [Blk.row (cs ++ new) true])[H.length]? = some (.row (cs ++ new) true) := by simp
  have hblt : b < H.length := (List.getElem?_eq_some_iff.1 hb).1
  have hvlt : vb < H.length := (List.getElem?_eq_some_iff.1 hyb).1
  have hi1 : i1 = .int .i64 ((kk + 1 : Nat) : Int) := by
    rw [vbin_add, wrap_i64 (by omega) (by omega)] at g1
    cases g1; simp
  subst hi1
  have b1 : vbounds (n + 1) (some (.int .i64 ((kk + 1 : Nat) : Int))) none = some (kk + 1, n + 1) := vbounds_lo (k := .i64) (n := kk + 1) (by omega)
  have b2 : vbounds (n + 1) (some (.int .i64 (kk : Int))) (some (.int .i64 (n : Int))) = some (kk, n) := by
    simp [vbounds, vint]; omega
  have b3 : vbounds (n + 1) (some (.int .i64 (kk : Int))) none = some (kk, n + 1) := vbounds_lo (k := .i64) (n := kk) (by omega)
  simp only [vslS, if_true, b1] at g2
  simp only [vslS, if_true, b2] at g3
  simp only [vslS, if_true, b3] at g5
  rw [if_neg (by omega), if_neg (by omega)] at g2
  have hd1 : d1 = .sl H.length ((kk + 1) * 3) (n - kk) 3 := by
    cases g2; congr 1 <;> omega
  have hs1 : s1 = .sl H.length (kk * 3) (n - kk) 3 := by
    by_cases e0 : kk = 0
    · subst e0; simp at g3; rw [← g3]; simp
    · rw [if_neg e0, if_neg (by omega)] at g3; cases g3; congr 1; omega
  have hd2 : d2 = .sl H.length (kk * 3) (n + 1 - kk) 3 := by
    by_cases e0 : kk = 0
    · subst e0; simp at g5; rw [← g5]; simp
    · rw [if_neg e0, if_neg (by omega)] at g5; cases g5; congr 1; omega
  subst hd1 hs1 hd2
  have hnl : new.length = 3 := by
    simp [vcells, hyb] at hnew
    rw [← hnew.2]; simp; omega
  have hdl : (cs.drop (kk * 3)).length = (n - kk) * 3 := by rw [List.length_drop, hcs]; omega
  have hc1 : vcells 3 (H.set b Blk.dead ++ [Blk.row (cs ++ new) true]) (.sl H.length (kk * 3) (n - kk) 3) = some (cs.drop (kk * 3)) := by
    simp only [vcells, if_true, hN]
    rw [if_pos (by rw [List.length_append]; omega), List.drop_append_of_le_length (by omega), List.take_append_of_le_length (by omega), List.take_of_length_le (by omega)]
  have hH2 := copy_row hN hc1 rfl hdl (Nat.le_refl _) (by omega) g4
  subst hH2
  have hN2 : ((H.set b Blk.dead ++ [Blk.row (cs ++ new) true]).set H.length (.row (splice (cs ++ new) ((kk + 1) * 3) (cs.drop (kk * 3))) true))[H.length]? = some (.row (splice (cs ++ new) ((kk + 1) * 3) (cs.drop (kk * 3))) true) := by
    rw [List.getElem?_set_self (by simp)]
  have hc2 : vcells 3 ((H.set b Blk.dead ++ [Blk.row (cs ++ new) true]).set H.length (.row (splice (cs ++ new) ((kk + 1) * 3) (cs.drop (kk * 3))) true)) (.sl vb vo 1 3) = some new := by
    rw [← hnew]
    simp only [vcells, if_true]
    rw [List.getElem?_set_ne (by omega), List.getElem?_append_left (by simpa using hvlt), List.getElem?_set_ne (fun e => hvb e.symm)]
  have hH3 := copy_row hN2 hc2 rfl hnl (by omega) (by omega) g6
  rw [List.set_set, splice_two hcs hnl hkk] at hH3
  have hH4 : s.H = H.set b .dead ++ [.row (cs.take (kk * 3) ++ new ++ cs.drop (kk * 3)) true] := by
    rw [hH3, List.set_append_right _ _ (by simp)]
    simp
  rw [hH4] at hfR ⊢
  have hfree : ρ H.length = none := hfR _ (Nat.le_refl _) (by simp)
  obtain ⟨C, el, fz, w1, w2, w3, w4, w5, w6, w7, w8⟩ := rowCells (off := 0) (m := n * 3) hH hb hρ (by omega)
  have hvoff : vo + 1 * 3 ≤ csY.length := by
    simp [vcells, hyb] at hnew
    omega
  obtain ⟨D, el2, fz2, y1, y2, y3, y4, y5, y6, y7, y8⟩ := rowCells (off := vo) (m := 1 * 3) hH hyb hρ2 hvoff
  have hnewe : new = (csY.drop vo).take (1 * 3) := by
    simp [vcells, hyb] at hnew
    rw [← hnew.2]
  rw [← hnewe] at y5 y6
  have hcse : (cs.drop 0).take (n * 3) = cs := by rw [List.drop_zero, List.take_of_length_le (by omega)]
  rw [hcse] at w5 w6
  simp only [Nat.add_zero] at w5 w6 w7 w8 ⊢
  generalize hcW : (C.toList.drop o).take (n * 3) = csW at w5 w7 w8
  generalize hvW : (D.toList.drop (o2 + vo)).take (1 * 3) = vs at y5 y7 y8
  have lcW : csW.length = n * 3 := by rw [← w5.1, hcs]
  have lvW : vs.length = 3 := by rw [← y5.1, hnl]
  have hCsz : o + cap * 3 ≤ C.size := by omega
  have hrr : r2 ≠ r := fun e => hvb (by subst e; exact hH.inj vb b _ _ _ _ _ _ _ _ hρ2 hρ hyb hb)
  have hres : VRs ρ (cs.take (kk * 3) ++ new ++ cs.drop (kk * 3)) (csW.take (kk * 3) ++ vs ++ csW.drop (kk * 3)) := ((w5.take _).append y5).append (w5.drop _)
  have hresS : Scals (cs.take (kk * 3) ++ new ++ cs.drop (kk * 3)) := ((w6.take _).append y6).append (w6.drop _)
  have hresL : (cs.take (kk * 3) ++ new ++ cs.drop (kk * 3)).length = (n + 1) * 3 := by
    rw [List.length_append, List.length_append, List.length_take, List.length_drop]; omega
  have dl : (csW.drop (kk * 3)).length = (n - kk) * 3 := by rw [List.length_drop, lcW]; omega
  have h1d : ∀ v ∈ csW.drop (kk * 3), v.oneCell' = true := fun v hv => w8 v (List.mem_of_mem_drop hv)
  by_cases hroom : n + 1 ≤ cap
  · -- there is room
    have hfzC := w4 rfl
    have hfzD := y4 rfl
    have q := ins_shift r o n cap kk r2 (o2 + vo) 1 cap2 csW vs w hkk (by omega) hroom (by omega) hrr lcW lvW w7 (fun j hj => by
        simp only [World.cell?, w1]
        rw [Array.getElem?_eq_getElem (by omega)]; rfl) (fun j hj => by
        have := hfzC (o + j) (by omega)
        simp only [World.frozen?, w1]
        simpa using this) y7 w8 y8 el2 el D.size C.size (by simp [World.shape?, y1]) (by simp [World.shape?, w1]) (by omega) (by
        have := hfzD (o2 + vo) (by omega)
        simp only [World.frozen?, y1]
        simpa using this) (by
        have := hfzD D.size (Nat.le_refl _)
        simp only [World.frozen?, y1]
        simpa using this)
    refine q.mono ?_
    rintro e w' ⟨rfl, rfl⟩
    have a1 := setCells_row w.drew r C el fz (o + (kk + 1) * 3) (csW.drop (kk * 3)) w1 hfzC (by omega) h1d
    rw [a1]
    have sz1 : (C.toList.take (o + (kk + 1) * 3) ++ csW.drop (kk * 3) ++ C.toList.drop (o + (kk + 1) * 3 + (csW.drop (kk * 3)).length)).toArray.size = C.size := by
      simp only [List.size_toArray, List.length_append, List.length_take, List.length_drop, Array.length_toList, dl, lcW]; omega
    have a2 := setCells_row (w.drew.setRow r (C.toList.take (o + (kk + 1) * 3) ++ csW.drop (kk * 3) ++ C.toList.drop (o + (kk + 1) * 3 + (csW.drop (kk * 3)).length)).toArray) r _ el fz (o + kk * 3) vs (setRow_heap w.drew r C _ el fz w1) (by rw [sz1]; exact hfzC) (by rw [sz1]; omega) y8
    rw [a2, setRow_setRow]
    have sz2 : ∀ X : List Value, X.length = C.size → (X.take (o + kk * 3) ++ vs ++ X.drop (o + kk * 3 + vs.length)).toArray.size = C.size := fun X hX => by
      simp only [List.size_toArray, List.length_append, List.length_take, List.length_drop, lvW, hX]; omega
    have sz1' := sz1
    rw [List.size_toArray] at sz1'
    obtain ⟨ρ', z1, z2, z3⟩ := in_place (lim := lim) hH hb hρ hlim hfree w1 (C' := _) (by rw [sz2 _ sz1']; exact hfzC) (by rw [sz2 _ sz1']; omega) (by rw [hresL]; omega) (rowAt_of hres hresS fun j hj => by
      rw [hresL] at hj
      rw [List.getElem?_toArray]
      exact two_copies lcW lvW hkk (by rw [Array.length_toList]; omega) (fun j hj => by rw [← hcW, List.getElem?_take_of_lt hj, List.getElem?_drop]) j hj) (len := n + 1) (cap := cap) hroom (by omega)
    exact ⟨_, ρ', rfl, z1, z2, z3⟩
  · -- there is none
    have q := ins_grow r o n cap kk r2 (o2 + vo) 1 cap2 csW vs w hkk (by omega) hx1 (by omega) (by omega) lcW lvW w7 y7 w8 y8
    refine q.mono ?_
    rintro e w' ⟨rfl, rfl⟩
    have hGn : n + 1 ≤ grownCap w (n + 1) cap 29 := grownCap_ge w _ _ _
    generalize hG : grownCap w (n + 1) cap 29 = G at hGn
    generalize hROW : (csW.take (kk * 3)).toArray ++ Builtin.zeroCells z29 (n + 1 - kk) ++ Builtin.zeroCells z29 (G - (n + 1)) = ROW
    have hRl : ROW.size = G * 3 := by
      rw [← hROW]
      simp [Builtin.zeroCells, z29, Value.cells, lcW]
      omega
    have hRt : ROW.toList.take (kk * 3) = csW.take (kk * 3) := by
      rw [← hROW]
      simp only [Array.toList_append, List.append_assoc]
      rw [List.take_append_of_le_length (by simp [lcW]; omega), List.take_of_length_le (by simp; omega)]
    obtain ⟨_, f2, f3, f4⟩ := alloc_facts w ROW 29
    have hN0 : (w.alloc (.cells ROW 29)).drew.heap[w.heap.size]? = some (.cells ROW 29 (0, 0)) := f4
    have a1 := setCells_row _ _ ROW 29 (0, 0) (kk * 3) vs hN0 FzOk.zero (by omega) y8
    rw [a1]
    have hR1l : (ROW.toList.take (kk * 3) ++ vs ++ ROW.toList.drop (kk * 3 + vs.length)).length = G * 3 := by
      simp only [List.length_append, List.length_take, List.length_drop, Array.length_toList, lvW, hRl]; omega
    have e3 : (ROW.toList.take (kk * 3) ++ vs ++ ROW.toList.drop (kk * 3 + vs.length)).take ((kk + 1) * 3) = csW.take (kk * 3) ++ vs := by
      have l3 : (ROW.toList.take (kk * 3) ++ vs).length = (kk + 1) * 3 := by
        rw [List.length_append, List.length_take, Array.length_toList, hRl, lvW]; omega
      rw [List.take_append_of_le_length (by omega), List.take_of_length_le (by omega), hRt]
    generalize ROW.toList.take (kk * 3) ++ vs ++ ROW.toList.drop (kk * 3 + vs.length) = R1 at hR1l e3
    have hN1 : ((w.alloc (.cells ROW 29)).drew.setRow w.heap.size R1.toArray).drew.heap[w.heap.size]? = some (.cells R1.toArray 29 (0, 0)) := setRow_heap _ _ ROW _ _ _ hN0
    have a2 := setCells_row _ _ _ 29 (0, 0) ((kk + 1) * 3) (csW.drop (kk * 3)) hN1 FzOk.zero (by rw [List.size_toArray, hR1l]; omega) h1d
    rw [a2, List.toList_toArray, e3]
    have hR2l : (csW.take (kk * 3) ++ vs ++ csW.drop (kk * 3) ++ R1.drop ((kk + 1) * 3 + (csW.drop (kk * 3)).length)).length = G * 3 := by
      rw [List.length_append, List.length_append, List.length_append, List.length_take, List.length_drop (l := R1), hR1l, dl, lcW, lvW]; omega
    have hR2e : ∀ j, j < (n + 1) * 3 → (csW.take (kk * 3) ++ vs ++ csW.drop (kk * 3) ++ R1.drop ((kk + 1) * 3 + (csW.drop (kk * 3)).length))[j]? = (csW.take (kk * 3) ++ vs ++ csW.drop (kk * 3))[j]? := fun j hj => by
      rw [List.getElem?_append_left]
      rw [List.length_append, List.length_append, List.length_take, dl, lcW, lvW]; omega
    generalize csW.take (kk * 3) ++ vs ++ csW.drop (kk * 3) ++ R1.drop ((kk + 1) * 3 + (csW.drop (kk * 3)).length) = R2 at hR2l hR2e
    obtain ⟨ρ', z1, z2, z3⟩ := in_new (lim := lim) hH hb hfree (len := n + 1) (nc := G) (w' := ((w.alloc (.cells ROW 29)).drew.setRow w.heap.size R1.toArray).drew.setRow w.heap.size R2.toArray) rfl rfl rfl
      (by rw [setRow_size]; show w.heap.size < (World.setRow _ _ _).heap.size; rw [setRow_size]; exact f2)
      (fun r' hr' => by
        rw [setRow_other _ _ _ _ (by omega)]
        show (World.setRow _ _ _).heap[r']? = _
        rw [setRow_other _ _ _ _ (by omega)]
        exact f3 r' hr') (setRow_heap _ _ _ _ _ _ hN1) (by rw [List.size_toArray, hR2l]; exact Nat.le_refl _) (by rw [hresL]; omega) (rowAt_of hres hresS fun j hj => by
      rw [hresL] at hj
      rw [List.getElem?_toArray, Nat.zero_add]
      exact hR2e j hj) hGn
    exact ⟨_, ρ', rfl, z1, z2, z3⟩
def vf27 : VFn := insV
theorem hok27 : HandOk Try.prog 27 vf27 := hok_ins
end Go.Proofs.Ytnfhccioglpjhaa.Vm
