/- Quicksort over the machine (api.Part): partial insertion sort, pivots, patterns, the whole. -/
import Derived.Test.YtkmcdiajcnejiaaSdC
namespace Go.Proofs.Ytkmcdiajcnejiaa.Vm
open Go
set_option maxRecDepth 100000
set_option maxHeartbeats 1000000
set_option linter.unusedSimpArgs false
set_option linter.unusedVariables false
attribute [-simp] List.getD_eq_getElem?_getD
section
variable {lim : Nat} {H H0 : Hp} {K : V → Hp → Prop} {b g : Nat} {l l0 : List EQ} {cf : EQ → EQ → Int} {fs cs : List V}
theorem sq_pis (hs : SqS b H0 l0 l H) (hlim : lim ≤ b) (hst : allStor fs = true ∧ allStor cs = true) (hc : CmpQ b g fs cs H0 l0 cf) (ho : Ordr cf) {a e : Nat} (hae : a < e ∧ e ≤ l0.length) (hl : l0.length ≤ 100000) (hg : GdR cf a e l)
    (hK : ∀ H' l' ok, SqS b H0 l0 l' H' → PermR a e l l' → (ok = true → SortR cf a e l') → K (.bool ok) H') : VCall tbl lim 105 [.sl b 0 l0.length 4, .int .i64 a, .int .i64 e, .func (.func g) fs cs] H K := by
  refine VCall_fn tbl_at105 rfl ?_
  have hn := hs.n
  simp (disch := omega) [vf105, wrap_i64]
  refine wLoop_up 5 (fun c fr L H' => ∃ l' i, (fr 0 = .sl b 0 l0.length 4 ∧ fr 1 = .int .i64 a ∧ fr 2 = .int .i64 e ∧ fr 3 = .func (.func g) fs cs ∧ fr 9 = .int .i64 (i : Nat) ∧ fr 10 = .int .i64 (c : Nat)) ∧ L = [] ∧ SqS b H0 l0 l' H' ∧ PermR a e l l' ∧ (a + 1 ≤ i ∧ i ≤ e) ∧ SortR cf a i l') ⟨l, a + 1, by simp, rfl, hs, PermR.refl, by omega, SortR.one (by omega)⟩ ?_
  rintro c hc5 fr L H' ⟨l', i, ⟨f0, f1, f2, f3, f9, f10⟩, rfl, hr, hp, hi, hso⟩
  simp [f0, f1, f2, f3, f9, f10]
  refine cond_dec (fun ht => ?_) fun ht => ?_
  case refine_2 =>
    simp
    exact hK _ _ false hr hp (fun h => by cases h)
  simp [f0, f1, f2, f3, f9, f10]
  refine wLoop_post 2 (fun fr L H' => ∃ l' i, (fr 0 = .sl b 0 l0.length 4 ∧ fr 1 = .int .i64 a ∧ fr 2 = .int .i64 e ∧ fr 3 = .func (.func g) fs cs ∧ fr 9 = .int .i64 (i : Nat) ∧ fr 10 = .int .i64 (c : Nat)) ∧ L = [] ∧ SqS b H0 l0 l' H' ∧ PermR a e l l' ∧ (a + 1 ≤ i ∧ i ≤ e) ∧ SortR cf a i l' ∧ (i < e → cf (gE l' i) (gE l' (i - 1)) < 0)) ?_ ?_
  · refine wLoop_m (n := e - i) (fun m fr L H' => ∃ l' i, (fr 0 = .sl b 0 l0.length 4 ∧ fr 1 = .int .i64 a ∧ fr 2 = .int .i64 e ∧ fr 3 = .func (.func g) fs cs ∧ fr 9 = .int .i64 (i : Nat) ∧ fr 10 = .int .i64 (c : Nat)) ∧ L = [] ∧ SqS b H0 l0 l' H' ∧ PermR a e l l' ∧ (a + 1 ≤ i ∧ i ≤ e) ∧ SortR cf a i l' ∧ m = e - i) ⟨l', i, by simp [f0, f1, f2, f3, f9, f10], rfl, hr, hp, hi, hso, rfl⟩ ?_
    clear f0 f1 f2 f3 f9 f10 hr hp hi hso l' i
    rintro m fr L H' ⟨l', i, ⟨f0, f1, f2, f3, f9, f10⟩, rfl, hr, hp, hi, hso, hm⟩
    have hlen := hp.len
    by_cases hie : i < e
    · have hgt : ((i : Int) < (e : Int)) = True := eq_true (by omega)
      have e1 : ((i : Int) - 1).toNat = i - 1 := by omega
      have g1 := fun L => sq_ld hr.row (i := i) (by omega) (L := L)
      have g2 := fun L => sq_ld hr.row (i := i - 1) (by omega) (L := L)
      simp (disch := omega) [f0, f1, f2, f3, f9, f10, hgt, e1, wrap_i64, g1, g2, hst, sq_addr, -viaddrS_in, -vload_ptrO]
      refine hc.at hr (i := i) (j := i - 1) (by omega) (by omega) fun H2 x2 hr2 => ?_
      simp
      refine cond_ndec (fun hlt => ?_) fun hlt => ?_
      · simp (disch := omega) [f0, f1, f2, f3, f9, f10, wrap_i64]
        exact ⟨m - 1, by omega, l', i + 1, by omega, hr2, hp, by omega, hso.next ho (by omega) hlt, by omega⟩
      · simp [f0, f1, f2, f3, f9, f10]
        exact ⟨l', i, by omega, hr2, hp, by omega, hso, fun _ => hlt⟩
    · have hgt : ((i : Int) < (e : Int)) = False := eq_false (by omega)
      simp (disch := omega) [f0, f1, f2, f3, f9, f10, hgt]
      exact ⟨l', i, by omega, hr, hp, by omega, hso, fun h => absurd h hie⟩
  clear f0 f1 f2 f3 f9 f10 hr hp hi hso l' i
  rintro fr L H' ⟨l', i, ⟨f0, f1, f2, f3, f9, f10⟩, rfl, hr, hp, hi, hso, hlt⟩
  have hlen := hp.len
  simp [f0, f1, f2, f3, f9, f10]
  by_cases hie : i = e
  · subst hie
    simp
    exact hK _ _ true hr hp fun _ => hso
  have hie2 : ((i : Int) = (e : Int)) = False := eq_false (by omega)
  replace hlt := hlt (by omega)
  simp (disch := omega) [hie, hie2, f0, f1, f2, f3, f9, f10, wrap_i64]
  refine cond_dec (fun h50 => ?_) fun h50 => ?_
  · simp
    exact hK _ _ false hr hp (fun h => by cases h)
  have e1 : ((i : Int) - 1).toNat = i - 1 := by omega
  have g1 := fun L => sq_ld hr.row (i := i) (by omega) (L := L)
  have g2 := fun L => sq_ld hr.row (i := i - 1) (by omega) (L := L)
  have w1 := fun L => sq_w1 hr hlim (i := i) (by omega) (L := L) (gE l' (i - 1))
  have w2 := fun L => sq_w2 hr hlim (i := i) (j := i - 1) (by omega) (L := L)
  have hr4 := hr.swap (i := i) (j := i - 1) (by omega) (by omega)
  have hps := hp.trans (swp_perm (l := l') (i := i) (j := i - 1) (a := a) (b := e) ⟨by omega, by omega⟩ ⟨by omega, by omega⟩ (by omega))
  have hso1 : SortR cf a (i - 1) (swp l' i (i - 1)) := SortR.keep (fun p q h1 h2 h3 => hso p q h1 h2 (by omega)) fun k hk => by rw [swp_get (by omega) (by omega), if_neg (by omega), if_neg (by omega)]
  simp (disch := omega) [f0, f1, f2, f3, f9, f10, e1, wrap_i64, g1, g2, w1, w2, hst, sq_addr, -viaddrS_in, -vstore, -vload_ptrO]
  generalize swp l' i (i - 1) = l1 at *
  generalize H'.set b (rowB l1) = H1 at *
  clear g1 g2 w1 w2 hr hp hso hlt hlen
  refine wCond_join (fun fr L H' => ∃ l', (fr 0 = .sl b 0 l0.length 4 ∧ fr 1 = .int .i64 a ∧ fr 2 = .int .i64 e ∧ fr 3 = .func (.func g) fs cs ∧ fr 9 = .int .i64 (i : Nat) ∧ fr 10 = .int .i64 (c : Nat)) ∧ L = [] ∧ SqS b H0 l0 l' H' ∧ PermR a e l l' ∧ SortR cf a i l') (fun h2 => ?_) (fun h2 => ?_) ?_
  · simp (disch := omega) [f0, f1, f2, f3, f9, f10, wrap_i64]
    refine wLoop_m (n := i - 1) (fun m fr L H' => ∃ l', (fr 0 = .sl b 0 l0.length 4 ∧ fr 1 = .int .i64 a ∧ fr 2 = .int .i64 e ∧ fr 3 = .func (.func g) fs cs ∧ fr 9 = .int .i64 (i : Nat) ∧ fr 10 = .int .i64 (c : Nat) ∧ fr 11 = .int .i64 (m : Nat)) ∧ L = [] ∧ SqS b H0 l0 l' H' ∧ PermR a e l l' ∧ InsR cf a (i - 1) m l' ∧ a ≤ m ∧ m ≤ i - 1) ⟨l1, by simp [f0, f1, f2, f3, f9, f10]; omega, rfl, hr4, hps, InsR.start hso1, by omega, Nat.le_refl _⟩ ?_
    clear f0 f1 f2 f3 f9 f10
    rintro m fr L H' ⟨l', ⟨f0, f1, f2, f3, f9, f10, f11⟩, rfl, hr, hp, hI, ha, hm⟩
    have hlen := hp.len
    simp [f0, f1, f2, f3, f9, f10, f11]
    refine cond_dec (fun h1 => ?_) fun h1 => ?_
    · have e2 : ((m : Int) - 1).toNat = m - 1 := by omega
      have g1 := fun L => sq_ld hr.row (i := m) (by omega) (L := L)
      have g2 := fun L => sq_ld hr.row (i := m - 1) (by omega) (L := L)
      simp (disch := omega) [f0, f1, f2, f3, f9, f10, f11, e2, wrap_i64, g1, g2, hst, sq_addr, -viaddrS_in, -vload_ptrO]
      refine hc.at hr (i := m) (j := m - 1) (by omega) (by omega) fun H2 x2 hr2 => ?_
      simp
      refine cond_ndec (fun hlt => ?_) fun hlt => ?_
      · have hd := hI.done ho ha hm (Or.inr hlt)
        rw [show i - 1 + 1 = i by omega] at hd
        simp [f0, f1, f2, f3, f9, f10]
        exact ⟨l', hr2, hp, hd⟩
      · have ham : a < m := by
          apply Classical.byContradiction
          intro hn2
          have : m = a := by omega
          subst this
          exact hg.perm hp (Nat.le_refl _) (Nat.le_refl _) (by omega) (by omega) m (Nat.le_refl _) (by omega) hlt
        have g1 := fun L => sq_ld hr2.row (i := m) (by omega) (L := L)
        have g2 := fun L => sq_ld hr2.row (i := m - 1) (by omega) (L := L)
        have w1 := fun L => sq_w1 hr2 hlim (i := m) (by omega) (L := L) (gE l' (m - 1))
        have w2 := fun L => sq_w2 hr2 hlim (i := m) (j := m - 1) (by omega) (L := L)
        have hr5 := hr2.swap (i := m) (j := m - 1) (by omega) (by omega)
        have hsw := InsR.swap ho hI (by omega) (by omega) (by omega) hlt
        have hps5 := hp.trans (swp_perm (l := l') (i := m) (j := m - 1) (a := a) (b := e) ⟨by omega, by omega⟩ ⟨by omega, by omega⟩ (by omega))
        have e3 : (m : Int) - 1 = ((m - 1 : Nat) : Int) := by omega
        simp (disch := omega) [f0, f1, f2, f3, f9, f10, f11, e2, wrap_i64, g1, g2, w1, w2, sq_addr, -viaddrS_in, -vstore, -vload_ptrO]
        exact ⟨m - 1, by omega, by omega, swp l' m (m - 1), hr5, hps5, hsw, by omega, by omega⟩
    · have hd := hI.done ho ha hm (Or.inl (by omega))
      rw [show i - 1 + 1 = i by omega] at hd
      simp [f0, f1, f2, f3, f9, f10]
      exact ⟨l', hr, hp, hd⟩
  · simp [f0, f1, f2, f3, f9, f10]
    exact ⟨l1, hr4, hps, SortR.one (by simp at h2; omega)⟩
  clear f0 f1 f2 f3 f9 f10 hr4 hps hso1 l1 H1
  rintro fr L H' ⟨l', ⟨f0, f1, f2, f3, f9, f10⟩, rfl, hr, hp, hso⟩
  simp (disch := omega) [f0, f1, f2, f3, f9, f10, wrap_i64]
  refine wCond_join (fun fr L H' => ∃ l', (fr 0 = .sl b 0 l0.length 4 ∧ fr 1 = .int .i64 a ∧ fr 2 = .int .i64 e ∧ fr 3 = .func (.func g) fs cs ∧ fr 9 = .int .i64 (i : Nat) ∧ fr 10 = .int .i64 (c : Nat)) ∧ L = [] ∧ SqS b H0 l0 l' H' ∧ PermR a e l l' ∧ SortR cf a i l') (fun h2 => ?_) (fun h2 => ?_) ?_
  · simp (disch := omega) [f0, f1, f2, f3, f9, f10, wrap_i64]
    refine wLoop_up (e - (i + 1)) (fun m fr L H' => ∃ l', (fr 0 = .sl b 0 l0.length 4 ∧ fr 1 = .int .i64 a ∧ fr 2 = .int .i64 e ∧ fr 3 = .func (.func g) fs cs ∧ fr 9 = .int .i64 (i : Nat) ∧ fr 10 = .int .i64 (c : Nat) ∧ fr 12 = .int .i64 ((i + 1 + m : Nat) : Int)) ∧ L = [] ∧ SqS b H0 l0 l' H' ∧ PermR a e l l' ∧ SortR cf a i l') ⟨l', by simp [f0, f1, f2, f3, f9, f10], rfl, hr, hp, hso⟩ ?_
    clear f0 f1 f2 f3 f9 f10 hr hp hso l'
    rintro m hm fr L H' ⟨l', ⟨f0, f1, f2, f3, f9, f10, f12⟩, rfl, hr, hp, hso⟩
    have hlen := hp.len
    simp [f0, f1, f2, f3, f9, f10, f12]
    refine cond_dec (fun h1 => ?_) fun h1 => ?_
    · have e2 : ((i : Int) + 1 + (m : Int)).toNat = i + 1 + m := by omega
      have e3 : ((i : Int) + 1 + (m : Int) - 1).toNat = i + m := by omega
      have g1 := fun L => sq_ld hr.row (i := i + 1 + m) (by omega) (L := L)
      have g2 := fun L => sq_ld hr.row (i := i + m) (by omega) (L := L)
      simp (disch := omega) [f0, f1, f2, f3, f9, f10, f12, e2, e3, wrap_i64, g1, g2, hst, sq_addr, -viaddrS_in, -vload_ptrO]
      refine hc.at hr (i := i + 1 + m) (j := i + m) (by omega) (by omega) fun H2 x2 hr2 => ?_
      simp
      refine cond_ndec (fun hlt => ?_) fun hlt => ?_
      · simp [f0, f1, f2, f3, f9, f10]
        exact ⟨l', hr2, hp, hso⟩
      · have g1 := fun L => sq_ld hr2.row (i := i + 1 + m) (by omega) (L := L)
        have g2 := fun L => sq_ld hr2.row (i := i + m) (by omega) (L := L)
        have w1 := fun L => sq_w1 hr2 hlim (i := i + 1 + m) (by omega) (L := L) (gE l' (i + m))
        have w2 := fun L => sq_w2 hr2 hlim (i := i + 1 + m) (j := i + m) (by omega) (L := L)
        have hr5 := hr2.swap (i := i + 1 + m) (j := i + m) (by omega) (by omega)
        have hps5 := hp.trans (swp_perm (l := l') (i := i + 1 + m) (j := i + m) (a := a) (b := e) ⟨by omega, by omega⟩ ⟨by omega, by omega⟩ (by omega))
        have hso5 : SortR cf a i (swp l' (i + 1 + m) (i + m)) := hso.keep fun k hk => by rw [swp_get (by omega) (by omega), if_neg (by omega), if_neg (by omega)]
        simp (disch := omega) [f0, f1, f2, f3, f9, f10, f12, e2, e3, wrap_i64, g1, g2, w1, w2, sq_addr, -viaddrS_in, -vstore, -vload_ptrO]
        exact ⟨by omega, by omega, _, hr5, hps5, hso5⟩
    · simp [f0, f1, f2, f3, f9, f10]
      exact ⟨l', hr, hp, hso⟩
  · simp [f0, f1, f2, f3, f9, f10]
    exact ⟨l', hr, hp, hso⟩
  clear f0 f1 f2 f3 f9 f10 hr hp hso l'
  rintro fr L H' ⟨l', ⟨f0, f1, f2, f3, f9, f10⟩, rfl, hr, hp, hso⟩
  simp (disch := omega) [f0, f1, f2, f3, f9, f10, wrap_i64]
  exact ⟨by omega, l', i, by omega, hr, hp, by omega, hso⟩
/-- the lengths in bits and the powers of two of the small numbers: run by the kernel -/
def powChk (r : Option (V × Hp)) (x : Nat) : Bool := match r with
  | some (.int .u64 m, []) => decide (0 ≤ m ∧ (x : Int) < m ∧ m ≤ 2 * (x : Int)) || decide (x = 0)
  | _ => false
def lenChk (r : Option (V × Hp)) : Bool := match r with
  | some (.int .i64 m, []) => decide (0 ≤ m ∧ m ≤ 100)
  | _ => false
theorem pow_all : (List.range 256).all (fun x => powChk (evFn (cloT tbl) 60 0 120 [.int .i64 x] []) x) = true := by kernel_rfl
theorem len_all : (List.range 256).all (fun x => lenChk (evFn (cloT tbl) 60 0 93 [.int .u64 x] [])) = true := by kernel_rfl
theorem sq_pow {x : Nat} (hx : 0 < x ∧ x < 256) (hlim : lim ≤ H.length) (hK : ∀ m : Nat, x < m → m ≤ 2 * x → K (.int .u64 m) H) : VCall tbl lim 120 [.int .i64 x] H K := by
  have h := List.all_eq_true.1 pow_all x (List.mem_range.2 hx.2)
  cases hr : evFn (cloT tbl) 60 0 120 [.int .i64 x] [] with
  | none => rw [hr] at h; cases h
  | some r =>
    obtain ⟨v, H1⟩ := r
    rw [hr] at h
    unfold powChk at h
    split at h
    · rename_i m he
      cases he
      have := evFn_sh (G := H) tbl 60 0 lim _ _ [] _ _ (by omega) hr
      have e : shH H [] = H := by simp [shH]
      rw [e] at this
      simp at h
      refine ⟨60, .int .u64 m, H, by simpa [shs, sh] using this, ?_⟩
      have e2 : m = ((m.toNat : Nat) : Int) := by omega
      rw [e2]
      exact hK _ (by omega) (by omega)
    · cases h
theorem sq_bits {x : Nat} (hx : x < 256) (hlim : lim ≤ H.length) (hK : ∀ m : Nat, m ≤ 100 → K (.int .i64 m) H) : VCall tbl lim 93 [.int .u64 x] H K := by
  have h := List.all_eq_true.1 len_all x (List.mem_range.2 hx)
  cases hr : evFn (cloT tbl) 60 0 93 [.int .u64 x] [] with
  | none => rw [hr] at h; cases h
  | some r =>
    obtain ⟨v, H1⟩ := r
    rw [hr] at h
    unfold lenChk at h
    split at h
    · rename_i m he
      cases he
      have := evFn_sh (G := H) tbl 60 0 lim _ _ [] _ _ (by omega) hr
      have e : shH H [] = H := by simp [shH]
      rw [e] at this
      simp at h
      refine ⟨60, .int .i64 m, H, by simpa [shs, sh] using this, ?_⟩
      have e2 : m = ((m.toNat : Nat) : Int) := by omega
      rw [e2]
      exact hK _ (by omega)
    · cases h
theorem shl_u {a : Int} : vbin .shl (.int .u64 a) (.int .u64 13) = some (.int .u64 (IntKind.wrap .u64 (a * 2 ^ 13))) := Eq.trans rfl rfl
theorem shl_u2 {a : Int} : vbin .shl (.int .u64 a) (.int .u64 17) = some (.int .u64 (IntKind.wrap .u64 (a * 2 ^ 17))) := Eq.trans rfl rfl
theorem shr_u {a : Int} : vbin .shr (.int .u64 a) (.int .u64 7) = some (.int .u64 (a.fdiv (2 ^ 7))) := Eq.trans rfl rfl
theorem su_ld {s : Nat} {w : Int} (h : H[s]? = some (.row [.int .u64 w] true)) {L : Lo} : vload none L H (.ptr s 0) = some (.int .u64 w) := by
  rw [vload_ptr h]; rfl
theorem su_st {s : Nat} {r : Blk} {z w : Int} (h : H[s]? = some (.row [.int .u64 w] true)) (hl : lim ≤ s) {L : Lo} : vstore lim L H (.ptr s 0) (.int .u64 z) 1 = some (L, H.set s (.row [.int .u64 z] true)) := by
  simp [vstore, vstoreH, h, hl, splice]
theorem sq_next {s : Nat} {w : Int} (h : H[s]? = some (.row [.int .u64 w] true)) (hl : lim ≤ s) (hK : ∀ z, K (.int .u64 z) (H.set s (.row [.int .u64 z] true))) : VCall tbl lim 121 [.ptr s 0] H K := by
  refine VCall_fn tbl_at121 rfl ?_
  have hb := (List.getElem?_eq_some_iff.1 h).1
  have ld := fun L => su_ld h (L := L)
  have st := fun L z => su_st (lim := lim) (r := .row [] true) h hl (L := L) (z := z)
  have row : ∀ z, (H.set s (.row [.int .u64 z] true))[s]? = some (.row [.int .u64 z] true) := fun z => by simp [hb]
  have ld2 := fun z L => su_ld (row z) (L := L)
  have st2 : ∀ y z L, vstore lim L (H.set s (.row [.int .u64 y] true)) (.ptr s 0) (.int .u64 z) 1 = some (L, H.set s (.row [.int .u64 z] true)) := fun y z L => by
    rw [su_st (r := .row [] true) (row y) hl, List.set_set]
  simp [vf121, ld, st, ld2, st2, shl_u, shl_u2, shr_u, vbin_xor, -vstore, -vload_ptrO]
  exact hK _
end
end Go.Proofs.Ytkmcdiajcnejiaa.Vm
