/- Quicksort over the machine (api.Part): rows that are sorted, insertion sort, medians. -/
import Derived.Test.YtkmcdiajcnejiaaBlA
import Derived.Test.YtkmcdiajcnejiaaVmMove
namespace Go.Proofs.Ytkmcdiajcnejiaa.Vm
open Go
set_option maxRecDepth 100000
set_option linter.unusedSimpArgs false
set_option linter.unusedVariables false
attribute [-simp] List.getD_eq_getElem?_getD
theorem wLoop_post {T : Tbl} {lim : Nat} {body : VCode} {Q : VExit → St → Prop} {s : St} (id : Nat) (P : Fr → Lo → Hp → Prop) (h : wCode T lim (.loop body) (fun e s => e = .exit id ∧ P s.fr s.L s.H) s) (hQ : ∀ fr L H, P fr L H → Q (.exit id) ⟨fr, L, H⟩) : wCode T lim (.loop body) Q s := by
  obtain ⟨n, e, s', h1, he, h2⟩ := h
  subst he
  exact ⟨n, _, s', h1, hQ _ _ _ h2⟩
abbrev EQ := Prt
def gE (l : List EQ) (i : Nat) : EQ := l.getD i default
def eV (x : EQ) : V := .agg x.cells
def rowB (l : List EQ) : Blk := .row (prC.all l) true
theorem stor_eV {x : EQ} : stor (eV x) = true := Eq.trans rfl rfl
attribute [simp] stor_eV
theorem sq_addr {b n : Nat} {i : Int} (h : 0 ≤ i ∧ i < n) : viaddrS 4 (.sl b 0 n 4) (.int .i64 i) = some (V.ptr b (i.toNat * 4)) := by
  rw [viaddrS_in (by omega), Nat.zero_add]
theorem sq_ld {H : Hp} {b : Nat} {l : List EQ} (h : H[b]? = some (rowB l)) {i : Nat} (hi : i < l.length) {L : Lo} : vload (some 4) L H (V.ptr b (i * 4)) = some (eV (gE l i)) := by
  have o : OwnT 0 prC H (.sl b 0 l.length 4) l := .row (Nat.zero_le _) h
  have := o.lst.load hi (L := L)
  rw [show ept 4 (.sl b 0 l.length 4) i = .ptr b (0 + i * 4) from rfl, Nat.zero_add] at this
  exact this
theorem sq_st {lim : Nat} {H : Hp} {b : Nat} {l : List EQ} (h : H[b]? = some (rowB l)) (hlim : lim ≤ b) {i : Nat} (hi : i < l.length) {L : Lo} (x : EQ) : vstore lim L H (V.ptr b (i * 4)) (eV x) 4 = some (L, H.set b (rowB (l.set i x))) := by
  have o : OwnT b prC H (.sl b 0 l.length 4) l := .row (Nat.le_refl _) h
  have := o.store (lim := lim) (i := i) (j := 0) (x := eV x) (y := x) (L := L) (sz := 4) hlim hi rfl rfl (by omega) (by
    show x.cells = splice (l.getD i default).cells 0 x.cells
    simp [Prt.cells, splice])
  rw [show eptf 4 (.sl b 0 l.length 4) i 0 = .ptr b (0 + i * 4 + 0) from rfl, Nat.zero_add, Nat.add_zero] at this
  exact this
/-- a row amid its sorting: all other old rows stand -/
structure SqS (b : Nat) (H0 : Hp) (l0 l : List EQ) (H : Hp) : Prop where
  row : H[b]? = some (rowB l)
  len : H0.length ≤ H.length
  oth : ∀ b', b' < H0.length → b' ≠ b → H[b']? = H0[b']?
  perm : l.Perm l0
  blt : b < H0.length
def CmpQ (b g : Nat) (fs cs : List V) (H0 : Hp) (l0 : List EQ) (cf : EQ → EQ → Int) : Prop :=
  ∀ (H : Hp) (lim : Nat) (x y : EQ) (K : V → Hp → Prop), x ∈ l0 → y ∈ l0 → H0.length ≤ H.length → (∀ b', b' < H0.length → b' ≠ b → H[b']? = H0[b']?) → (∀ H', HX H H' → K (.int .i64 (cf x y)) H') → VCall tbl lim g (fs ++ eV x :: eV y :: cs) H K
section
variable {lim : Nat} {H H0 : Hp} {K : V → Hp → Prop} {b g : Nat} {l l0 : List EQ} {cf : EQ → EQ → Int} {fs cs : List V}
theorem SqS.n (h : SqS b H0 l0 l H) : l.length = l0.length := h.perm.length_eq
theorem SqS.start (hb : H[b]? = some (rowB l)) : SqS b H l l H := ⟨hb, Nat.le_refl _, fun _ _ _ => rfl, .refl _, (List.getElem?_eq_some_iff.1 hb).1⟩
theorem SqS.lt (h : SqS b H0 l0 l H) : b < H.length := (List.getElem?_eq_some_iff.1 h.row).1
theorem SqS.grow {H' : Hp} (h : SqS b H0 l0 l H) (x : HX H H') : SqS b H0 l0 l H' :=
  ⟨x.get h.row, Nat.le_trans h.len x.len, fun b' h1 h2 => (x.same (Nat.lt_of_lt_of_le h1 h.len)).trans (h.oth b' h1 h2), h.perm, h.blt⟩
theorem SqS.set {l' : List EQ} (h : SqS b H0 l0 l H) (hp : l'.Perm l0) : SqS b H0 l0 l' (H.set b (rowB l')) :=
  ⟨by simp [h.lt], by simpa using h.len, fun b' h1 h2 => by rw [List.getElem?_set_ne (fun e => h2 e.symm)]; exact h.oth b' h1 h2, hp, h.blt⟩
theorem SqS.swap (h : SqS b H0 l0 l H) {i j : Nat} (hi : i < l.length) (hj : j < l.length) : SqS b H0 l0 (swp l i j) (H.set b (rowB (swp l i j))) :=
  h.set ((swp_perm (a := 0) (b := l.length) ⟨Nat.zero_le _, hi⟩ ⟨Nat.zero_le _, hj⟩ (Nat.le_refl _)).perm.trans h.perm)
theorem SqS.aside (h : SqS b H0 l0 l H) {s : Nat} {r : Blk} (hs : H0.length ≤ s) : SqS b H0 l0 l (H.set s r) := by
  have := h.blt
  exact ⟨by rw [List.getElem?_set_ne (by omega)]; exact h.row, by simpa using h.len, fun b' h1 h2 => by rw [List.getElem?_set_ne (by omega)]; exact h.oth b' h1 h2, h.perm, h.blt⟩
theorem SqS.mem (h : SqS b H0 l0 l H) {i : Nat} (hi : i < l.length) : gE l i ∈ l0 := by
  rw [gE, ← h.perm.mem_iff, getD_of hi]; exact List.getElem_mem hi
theorem CmpQ.at (hc : CmpQ b g fs cs H0 l0 cf) (hs : SqS b H0 l0 l H) {i j : Nat} (hi : i < l.length) (hj : j < l.length) {lim : Nat} {K : V → Hp → Prop} (hK : ∀ H', HX H H' → SqS b H0 l0 l H' → K (.int .i64 (cf (gE l i) (gE l j))) H') :
    VCall tbl lim g (fs ++ eV (gE l i) :: eV (gE l j) :: cs) H K :=
  hc H lim _ _ K (hs.mem hi) (hs.mem hj) hs.len hs.oth fun H' x => hK H' x (hs.grow x)
theorem sq_w1 (h : SqS b H0 l0 l H) (hlim : lim ≤ b) {i : Nat} (hi : i < l.length) {L : Lo} (x : EQ) : vstore lim L H (V.ptr b (i * 4)) (eV x) 4 = some (L, H.set b (rowB (l.set i x))) := sq_st h.row hlim hi x
theorem sq_w2 (h : SqS b H0 l0 l H) (hlim : lim ≤ b) {i j : Nat} (hj : j < l.length) {L : Lo} : vstore lim L (H.set b (rowB (l.set i (gE l j)))) (V.ptr b (j * 4)) (eV (gE l i)) 4 = some (L, H.set b (rowB (swp l i j))) := by
  rw [sq_st (l := l.set i (gE l j)) (by simp [h.lt]) hlim (by simpa using hj), List.set_set]; rfl
theorem sq_isort (hs : SqS b H0 l0 l H) (hlim : lim ≤ b) (hst : allStor fs = true ∧ allStor cs = true) (hc : CmpQ b g fs cs H0 l0 cf) (ho : Ordr cf) {a e : Nat} (hae : a ≤ e ∧ e ≤ l0.length) (hl : l0.length ≤ 100000)
    (hK : ∀ H' l', SqS b H0 l0 l' H' → PermR a e l l' → SortR cf a e l' → K (.tup []) H') : VCall tbl lim 100 [.sl b 0 l0.length 4, .int .i64 a, .int .i64 e, .func (.func g) fs cs] H K := by
  refine VCall_fn tbl_at100 rfl ?_
  have hn := hs.n
  simp (disch := omega) [vf100, wrap_i64]
  refine wLoop_up (e - (a + 1)) (fun i fr L H' => ∃ l', (fr 0 = .sl b 0 l0.length 4 ∧ fr 1 = .int .i64 a ∧ fr 2 = .int .i64 e ∧ fr 3 = .func (.func g) fs cs ∧ fr 8 = .int .i64 ((a + 1 + i : Nat) : Int)) ∧ L = [] ∧ SqS b H0 l0 l' H' ∧ PermR a e l l' ∧ SortR cf a (min e (a + 1 + i)) l') ⟨l, by simp, rfl, hs, PermR.refl, fun p q h1 h2 h3 => by omega⟩ ?_
  rintro i hi fr L H' ⟨l', ⟨f0, f1, f2, f3, f8⟩, rfl, hr, hp, hs'⟩
  simp [f0, f1, f2, f3, f8]
  refine cond_dec (fun ht => ?_) fun hfl => ?_
  · have ht : i < e - (a + 1) := by omega
    rw [Nat.min_eq_right (by omega)] at hs'
    simp [f8]
    refine wLoop_m (n := i + 1) (fun m fr L H' => ∃ l', (fr 0 = .sl b 0 l0.length 4 ∧ fr 1 = .int .i64 a ∧ fr 2 = .int .i64 e ∧ fr 3 = .func (.func g) fs cs ∧ fr 8 = .int .i64 ((a + 1 + i : Nat) : Int) ∧ fr 9 = .int .i64 ((a + m : Nat) : Int)) ∧ L = [] ∧ SqS b H0 l0 l' H' ∧ PermR a e l l' ∧ m ≤ i + 1 ∧ InsR cf a (a + 1 + i) (a + m) l') ⟨l', by simp [f0, f1, f2, f3, f8]; omega, rfl, hr, hp, Nat.le_refl _, by rw [show a + (i + 1) = a + 1 + i by omega]; exact InsR.start hs'⟩ ?_
    clear f0 f1 f2 f3 f8 hr hp hs' l'
    rintro m fr L H' ⟨l', ⟨f0, f1, f2, f3, f8, f9⟩, rfl, hr, hp, hm, hI⟩
    have hlen := hp.len
    by_cases hm0 : m = 0
    · subst hm0
      have hs2 := hI.done ho (by omega) (by omega) (Or.inl rfl)
      simp (disch := omega) [f0, f1, f2, f3, f8, f9, wrap_i64]
      refine ⟨by omega, by omega, l', hr, hp, ?_⟩
      rw [show a + 1 + (i + 1) = a + 1 + i + 1 by omega]; exact hs2
    · have e1 : ((a : Int) + (m : Int)).toNat = a + m := by omega
      have e2 : ((a : Int) + (m : Int) - 1).toNat = a + m - 1 := by omega
      have g1 := fun L => sq_ld hr.row (i := a + m) (by omega) (L := L)
      have g2 := fun L => sq_ld hr.row (i := a + m - 1) (by omega) (L := L)
      have hgt : ((a : Int) < (a : Int) + (m : Int)) = True := eq_true (by omega)
      simp (disch := omega) [f0, f1, f2, f3, f8, f9, hgt, wrap_i64, e1, e2, g1, g2, hst, sq_addr, -viaddrS_in, -vload_ptrO]
      refine hc.at hr (i := a + m) (j := a + m - 1) (by omega) (by omega) fun H2 x2 hr2 => ?_
      have g1 := fun L => sq_ld hr2.row (i := a + m) (by omega) (L := L)
      have g2 := fun L => sq_ld hr2.row (i := a + m - 1) (by omega) (L := L)
      simp
      refine cond_dec (fun hlt => ?_) fun hlt => ?_
      · have w1 := fun L => sq_w1 hr2 hlim (i := a + m) (by omega) (L := L) (gE l' (a + m - 1))
        have w2 := fun L => sq_w2 hr2 hlim (i := a + m) (j := a + m - 1) (by omega) (L := L)
        have hr4 := hr2.swap (i := a + m) (j := a + m - 1) (by omega) (by omega)
        have hsw := InsR.swap ho hI (by omega) (by omega) (by omega) hlt
        have hsw : InsR cf a (a + 1 + i) (a + (m - 1)) (swp l' (a + m) (a + m - 1)) := by
          have e3 : a + (m - 1) = a + m - 1 := by omega
          rw [e3]; exact hsw
        have hps := hp.trans (swp_perm (l := l') (i := a + m) (j := a + m - 1) (a := a) (b := e) ⟨by omega, by omega⟩ ⟨by omega, by omega⟩ (by omega))
        simp (disch := omega) [f0, f1, f2, f3, f8, f9, wrap_i64, e1, e2, g1, g2, w1, w2, sq_addr, -viaddrS_in, -vstore, -vload_ptrO]
        exact ⟨m - 1, by omega, by omega, _, hr4, hps, by omega, hsw⟩
      · have hs2 := hI.done ho (by omega) (by omega) (Or.inr hlt)
        simp (disch := omega) [f0, f1, f2, f3, f8, f9, wrap_i64]
        refine ⟨by omega, by omega, l', hr2, hp, ?_⟩
        rw [show a + 1 + (i + 1) = a + 1 + i + 1 by omega]; exact hs2
  · have : e ≤ a + 1 + i := by omega
    rw [Nat.min_eq_left this] at hs'
    simp
    exact hK _ _ hr hp hs'
theorem sw_ld {s : Nat} {w : Int} (h : H[s]? = some (.row [.int .i64 w] true)) {L : Lo} : vload none L H (.ptr s 0) = some (.int .i64 w) := by
  rw [vload_ptr h]; rfl
theorem sw_st {s : Nat} {w z : Int} (h : H[s]? = some (.row [.int .i64 w] true)) (hl : lim ≤ s) {L : Lo} : vstore lim L H (.ptr s 0) (.int .i64 z) 1 = some (L, H.set s (.row [.int .i64 z] true)) := by
  simp [vstore, vstoreH, h, hl, splice]
theorem sq_order2 {s x y : Nat} {w : Int} (hs : SqS b H0 l0 l H) (hlim : lim ≤ b) (hst : allStor fs = true ∧ allStor cs = true) (hc : CmpQ b g fs cs H0 l0 cf) (hsw : H[s]? = some (.row [.int .i64 w] true)) (hs0 : H0.length ≤ s) (hx : x < l0.length) (hy : y < l0.length)
    (hK : ∀ H' w' x' y', SqS b H0 l0 l H' → H'[s]? = some (.row [.int .i64 w'] true) → ((x' = x ∧ y' = y) ∨ (x' = y ∧ y' = x)) → K (.tup [.int .i64 (x' : Nat), .int .i64 (y' : Nat)]) H') :
    VCall tbl lim 127 [.sl b 0 l0.length 4, .int .i64 x, .int .i64 y, .ptr s 0, .func (.func g) fs cs] H K := by
  refine VCall_fn tbl_at127 rfl ?_
  have hn := hs.n
  have g1 := fun L => sq_ld hs.row (i := x) (by omega) (L := L)
  have g2 := fun L => sq_ld hs.row (i := y) (by omega) (L := L)
  simp (disch := omega) [vf127, g1, g2, hst, sq_addr, -viaddrS_in, -vload_ptrO]
  refine hc.at hs (i := y) (j := x) (by omega) (by omega) fun H2 x2 hs2 => ?_
  have hsw2 := x2.get hsw
  have hbl := hs.blt
  simp
  refine cond_dec (fun hlt => ?_) fun hlt => ?_
  · have ld := fun L => sw_ld (L := L) hsw2
    have st := fun L z => sw_st (lim := lim) (L := L) (z := z) hsw2 (by omega)
    simp [ld, st, -vstore, -vload_ptrO]
    exact hK _ _ y x (hs2.aside hs0) (by rw [List.getElem?_set_self (List.getElem?_eq_some_iff.1 hsw2).1]) (Or.inr ⟨rfl, rfl⟩)
  · simp
    exact hK _ _ x y hs2 hsw2 (Or.inl ⟨rfl, rfl⟩)
theorem sq_median {s x y z : Nat} {w : Int} (hs : SqS b H0 l0 l H) (hlim : lim ≤ b) (hst : allStor fs = true ∧ allStor cs = true) (hc : CmpQ b g fs cs H0 l0 cf) (hsw : H[s]? = some (.row [.int .i64 w] true)) (hs0 : H0.length ≤ s) (hx : x < l0.length) (hy : y < l0.length) (hz : z < l0.length)
    (hK : ∀ H' w' r, SqS b H0 l0 l H' → H'[s]? = some (.row [.int .i64 w'] true) → (r = x ∨ r = y ∨ r = z) → K (.int .i64 (r : Nat)) H') :
    VCall tbl lim 123 [.sl b 0 l0.length 4, .int .i64 x, .int .i64 y, .int .i64 z, .ptr s 0, .func (.func g) fs cs] H K := by
  refine VCall_fn tbl_at123 rfl ?_
  simp [vf123, hst]
  refine sq_order2 hs hlim hst hc hsw hs0 hx hy fun H1 w1 x1 y1 hs1 hsw1 h1 => ?_
  simp [hst]
  refine sq_order2 hs1 hlim hst hc hsw1 hs0 (x := y1) (y := z) (by omega) hz fun H2 w2 x2 y2 hs2 hsw2 h2 => ?_
  simp [hst]
  refine sq_order2 hs2 hlim hst hc hsw2 hs0 (x := x1) (y := x2) (by omega) (by omega) fun H3 w3 x3 y3 hs3 hsw3 h3 => ?_
  simp
  exact hK _ _ _ hs3 hsw3 (by omega)
theorem sq_medianAdj {s x : Nat} {w : Int} (hs : SqS b H0 l0 l H) (hlim : lim ≤ b) (hst : allStor fs = true ∧ allStor cs = true) (hc : CmpQ b g fs cs H0 l0 cf) (hsw : H[s]? = some (.row [.int .i64 w] true)) (hs0 : H0.length ≤ s) (hx : 0 < x ∧ x + 1 < l0.length) (hl : l0.length ≤ 100000)
    (hK : ∀ H' w' r, SqS b H0 l0 l H' → H'[s]? = some (.row [.int .i64 w'] true) → (x - 1 ≤ r ∧ r ≤ x + 1) → K (.int .i64 (r : Nat)) H') :
    VCall tbl lim 122 [.sl b 0 l0.length 4, .int .i64 x, .ptr s 0, .func (.func g) fs cs] H K := by
  refine VCall_fn tbl_at122 rfl ?_
  have e1 : (x : Int) - 1 = ((x - 1 : Nat) : Int) := by omega
  have e2 : (x : Int) + 1 = ((x + 1 : Nat) : Int) := by omega
  simp (disch := omega) [vf122, hst, wrap_i64]
  rw [e1, e2]
  refine sq_median hs hlim hst hc hsw hs0 (x := x - 1) (y := x) (z := x + 1) (by omega) (by omega) (by omega) fun H1 w1 r hs1 hsw1 h1 => ?_
  simp
  exact hK _ _ _ hs1 hsw1 (by omega)
theorem sq_reverse (hs : SqS b H0 l0 l H) (hlim : lim ≤ b) {a e : Nat} {f : V} (hae : a < e ∧ e ≤ l0.length) (hl : l0.length ≤ 100000)
    (hK : ∀ H' l', SqS b H0 l0 l' H' → PermR a e l l' → K (.tup []) H') : VCall tbl lim 104 [.sl b 0 l0.length 4, .int .i64 a, .int .i64 e, f] H K := by
  refine VCall_fn tbl_at104 rfl ?_
  have hn := hs.n
  simp (disch := omega) [vf104, wrap_i64]
  refine wLoop_up (e - a) (fun i fr L H' => ∃ l', (fr 0 = .sl b 0 l0.length 4 ∧ fr 8 = .int .i64 ((a + i : Nat) : Int) ∧ fr 9 = .int .i64 ((e - 1 : Nat) - (i : Nat) : Int)) ∧ L = [] ∧ SqS b H0 l0 l' H' ∧ PermR a e l l') ⟨l, by simp; omega, rfl, hs, PermR.refl⟩ ?_
  rintro i hi fr L H' ⟨l', ⟨f0, f8, f9⟩, rfl, hr, hp⟩
  have hlen := hp.len
  simp [f0, f8, f9]
  refine cond_dec (fun ht => ?_) fun hfl => ?_
  · have e1 : ((a : Int) + (i : Int)).toNat = a + i := by omega
    have e2 : (((e - 1 : Nat) : Int) - (i : Int)).toNat = e - 1 - i := by omega
    have g1 := fun L => sq_ld hr.row (i := a + i) (by omega) (L := L)
    have g2 := fun L => sq_ld hr.row (i := e - 1 - i) (by omega) (L := L)
    have w1 := fun L => sq_w1 hr hlim (i := a + i) (by omega) (L := L) (gE l' (e - 1 - i))
    have w2 := fun L => sq_w2 hr hlim (i := a + i) (j := e - 1 - i) (by omega) (L := L)
    have hr4 := hr.swap (i := a + i) (j := e - 1 - i) (by omega) (by omega)
    have hps := hp.trans (swp_perm (l := l') (i := a + i) (j := e - 1 - i) (a := a) (b := e) ⟨by omega, by omega⟩ ⟨by omega, by omega⟩ (by omega))
    simp (disch := omega) [f0, f8, f9, wrap_i64, e1, e2, g1, g2, w1, w2, sq_addr, -viaddrS_in, -vstore, -vload_ptrO]
    exact ⟨by omega, by omega, _, hr4, hps⟩
  · simp
    exact hK _ _ hr hp
end
end Go.Proofs.Ytkmcdiajcnejiaa.Vm
