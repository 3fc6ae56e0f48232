/- Quicksort over the machine (api.Part): heaps, partitions. -/
import Derived.Test.YtkmcdiajcnejiaaSdA
namespace Go.Proofs.Ytkmcdiajcnejiaa.Vm
open Go
set_option maxRecDepth 100000
set_option maxHeartbeats 1000000
set_option linter.unusedSimpArgs false
set_option linter.unusedVariables false
attribute [-simp] List.getD_eq_getElem?_getD
section
variable {lim : Nat} {H H0 : Hp} {K : V → Hp → Prop} {b g : Nat} {l l0 : List EQ} {cf : EQ → EQ → Int} {fs cs : List V}
theorem sq_sift (hs : SqS b H0 l0 l H) (hlim : lim ≤ b) (hst : allStor fs = true ∧ allStor cs = true) (hc : CmpQ b g fs cs H0 l0 cf) (ho : Ordr cf) {f lo hi : Nat} (hf : f + hi ≤ l0.length ∧ lo < hi + 1) (hl : l0.length ≤ 100000) (hp : HpR cf f (lo + 1) hi l)
    (hK : ∀ H' l', SqS b H0 l0 l' H' → PermR f (f + hi) l l' → HpR cf f lo hi l' → K (.tup []) H') :
    VCall tbl lim 119 [.sl b 0 l0.length 4, .int .i64 lo, .int .i64 hi, .int .i64 f, .func (.func g) fs cs] H K := by
  refine VCall_fn tbl_at119 rfl ?_
  have hn := hs.n
  simp (disch := omega) [vf119, wrap_i64]
  refine wLoop_m (n := hi + 1 - lo) (fun m fr L H' => ∃ l' r, (fr 0 = .sl b 0 l0.length 4 ∧ fr 2 = .int .i64 hi ∧ fr 3 = .int .i64 f ∧ fr 4 = .func (.func g) fs cs ∧ fr 10 = .int .i64 (r : Nat)) ∧ L = [] ∧ SqS b H0 l0 l' H' ∧ PermR f (f + hi) l l' ∧ SfI cf f lo hi r l' ∧ r ≤ hi ∧ m = hi + 1 - r) ⟨l, lo, by simp, rfl, hs, PermR.refl, SfI.start hp, by omega, rfl⟩ ?_
  rintro m fr L H' ⟨l', r, ⟨f0, f2, f3, f4, f10⟩, rfl, hr, hpp, hI, hrh, hm⟩
  have hlen := hpp.len
  simp (disch := omega) [f0, f2, f3, f4, f10, wrap_i64]
  refine cond_dec (fun ht => ?_) fun ht => ?_
  · simp
    exact hK _ _ hr hpp (hI.end1 (by omega))
  have h1 : 2 * r + 1 < hi := by omega
  have e1 : ((f : Int) + (2 * (r : Int) + 1)).toNat = f + (2 * r + 1) := by omega
  have e2 : ((f : Int) + (2 * (r : Int) + 1) + 1).toNat = f + (2 * r + 1 + 1) := by omega
  have e3 : ((f : Int) + (r : Int)).toNat = f + r := by omega
  have e4 : ((f : Int) + (2 * (r : Int) + 1 + 1)).toNat = f + (2 * r + 1 + 1) := by omega
  have g1 := fun L => sq_ld hr.row (i := f + (2 * r + 1)) (by omega) (L := L)
  by_cases h2 : 2 * r + 1 + 1 < hi
  · have g2 := fun L => sq_ld hr.row (i := f + (2 * r + 1 + 1)) (by omega) (L := L)
    have hgt : (2 * (r : Int) + 1 + 1 < (hi : Int)) = True := eq_true (by omega)
    simp (disch := omega) [f0, f2, f3, f4, f10, hgt, wrap_i64, e1, e2, g1, g2, hst, sq_addr, -viaddrS_in, -vload_ptrO]
    refine hc.at hr (i := f + (2 * r + 1)) (j := f + (2 * r + 1 + 1)) (by omega) (by omega) fun H2 x2 hr2 => ?_
    simp
    refine cond_dec (fun hlt => ?_) fun hlt => ?_
    · have ch0 := ChR.two ho h2 hlt
      have ch : ChR cf f hi r (2 * r + 1 + 1) l' := ch0
      have hcr := ch.rng
      have g3 := fun L => sq_ld hr2.row (i := f + r) (by omega) (L := L)
      have g4 := fun L => sq_ld hr2.row (i := f + (2 * r + 1 + 1)) (by omega) (L := L)
      simp (disch := omega) [f0, f2, f3, f4, f10, wrap_i64, e1, e2, e3, e4, g3, g4, hst, sq_addr, -viaddrS_in, -vload_ptrO]
      refine hc.at hr2 (i := f + r) (j := f + (2 * r + 1 + 1)) (by omega) (by omega) fun H3 x3 hr3 => ?_
      simp
      refine cond_ndec (fun hlt => ?_) fun hlt => ?_
      · simp
        exact hK _ _ hr3 hpp (hI.end2 ho ch hlt)
      · have g3 := fun L => sq_ld hr3.row (i := f + r) (by omega) (L := L)
        have g4 := fun L => sq_ld hr3.row (i := f + (2 * r + 1 + 1)) (by omega) (L := L)
        have w1 := fun L => sq_w1 hr3 hlim (i := f + r) (by omega) (L := L) (gE l' (f + (2 * r + 1 + 1)))
        have w2 := fun L => sq_w2 hr3 hlim (i := f + r) (j := f + (2 * r + 1 + 1)) (by omega) (L := L)
        have hr4 := hr3.swap (i := f + r) (j := f + (2 * r + 1 + 1)) (by omega) (by omega)
        have hps := hpp.trans (swp_perm (l := l') (i := f + r) (j := f + (2 * r + 1 + 1)) (a := f) (b := f + hi) ⟨by omega, by omega⟩ ⟨by omega, by omega⟩ (by omega))
        have hI2 := hI.step ho ch (by omega) hlt
        simp (disch := omega) [f0, f2, f3, f4, f10, wrap_i64, e1, e2, e3, e4, g3, g4, w1, w2, sq_addr, -viaddrS_in, -vstore, -vload_ptrO]
        exact ⟨hi + 1 - (2 * r + 1 + 1), by omega, _, 2 * r + 1 + 1, by omega, hr4, hps, hI2, by omega, rfl⟩
    · have ch0 := ChR.one ho (hi := hi) (l := l') (f := f) h1 (fun h => hlt h.2)
      have ch : ChR cf f hi r (2 * r + 1) l' := ch0
      have hcr := ch.rng
      have g3 := fun L => sq_ld hr2.row (i := f + r) (by omega) (L := L)
      have g4 := fun L => sq_ld hr2.row (i := f + (2 * r + 1)) (by omega) (L := L)
      simp (disch := omega) [f0, f2, f3, f4, f10, wrap_i64, e1, e2, e3, e4, g3, g4, hst, sq_addr, -viaddrS_in, -vload_ptrO]
      refine hc.at hr2 (i := f + r) (j := f + (2 * r + 1)) (by omega) (by omega) fun H3 x3 hr3 => ?_
      simp
      refine cond_ndec (fun hlt => ?_) fun hlt => ?_
      · simp
        exact hK _ _ hr3 hpp (hI.end2 ho ch hlt)
      · have g3 := fun L => sq_ld hr3.row (i := f + r) (by omega) (L := L)
        have g4 := fun L => sq_ld hr3.row (i := f + (2 * r + 1)) (by omega) (L := L)
        have w1 := fun L => sq_w1 hr3 hlim (i := f + r) (by omega) (L := L) (gE l' (f + (2 * r + 1)))
        have w2 := fun L => sq_w2 hr3 hlim (i := f + r) (j := f + (2 * r + 1)) (by omega) (L := L)
        have hr4 := hr3.swap (i := f + r) (j := f + (2 * r + 1)) (by omega) (by omega)
        have hps := hpp.trans (swp_perm (l := l') (i := f + r) (j := f + (2 * r + 1)) (a := f) (b := f + hi) ⟨by omega, by omega⟩ ⟨by omega, by omega⟩ (by omega))
        have hI2 := hI.step ho ch (by omega) hlt
        simp (disch := omega) [f0, f2, f3, f4, f10, wrap_i64, e1, e2, e3, e4, g3, g4, w1, w2, sq_addr, -viaddrS_in, -vstore, -vload_ptrO]
        exact ⟨hi + 1 - (2 * r + 1), by omega, _, 2 * r + 1, by omega, hr4, hps, hI2, by omega, rfl⟩
  · have ch0 := ChR.one ho (hi := hi) (l := l') (f := f) h1 (fun h => h2 h.1)
    have hgd : decide (2 * (r : Int) + 1 + 1 < (hi : Int)) = false := decide_eq_false (by omega)
    simp (disch := omega) [f0, f2, f3, f4, f10, hgd, wrap_i64, -viaddrS_in]
    have ch : ChR cf f hi r (2 * r + 1) l' := ch0
    have hcr := ch.rng
    have g3 := fun L => sq_ld hr.row (i := f + r) (by omega) (L := L)
    have g4 := fun L => sq_ld hr.row (i := f + (2 * r + 1)) (by omega) (L := L)
    simp (disch := omega) [f0, f2, f3, f4, f10, wrap_i64, e1, e2, e3, e4, g3, g4, hst, sq_addr, -viaddrS_in, -vload_ptrO]
    refine hc.at hr (i := f + r) (j := f + (2 * r + 1)) (by omega) (by omega) fun H3 x3 hr3 => ?_
    simp
    refine cond_ndec (fun hlt => ?_) fun hlt => ?_
    · simp
      exact hK _ _ hr3 hpp (hI.end2 ho ch hlt)
    · have g3 := fun L => sq_ld hr3.row (i := f + r) (by omega) (L := L)
      have g4 := fun L => sq_ld hr3.row (i := f + (2 * r + 1)) (by omega) (L := L)
      have w1 := fun L => sq_w1 hr3 hlim (i := f + r) (by omega) (L := L) (gE l' (f + (2 * r + 1)))
      have w2 := fun L => sq_w2 hr3 hlim (i := f + r) (j := f + (2 * r + 1)) (by omega) (L := L)
      have hr4 := hr3.swap (i := f + r) (j := f + (2 * r + 1)) (by omega) (by omega)
      have hps := hpp.trans (swp_perm (l := l') (i := f + r) (j := f + (2 * r + 1)) (a := f) (b := f + hi) ⟨by omega, by omega⟩ ⟨by omega, by omega⟩ (by omega))
      have hI2 := hI.step ho ch (by omega) hlt
      simp (disch := omega) [f0, f2, f3, f4, f10, wrap_i64, e1, e2, e3, e4, g3, g4, w1, w2, sq_addr, -viaddrS_in, -vstore, -vload_ptrO]
      exact ⟨hi + 1 - (2 * r + 1), by omega, _, 2 * r + 1, by omega, hr4, hps, hI2, by omega, rfl⟩
theorem sq_heap (hs : SqS b H0 l0 l H) (hlim : lim ≤ b) (hst : allStor fs = true ∧ allStor cs = true) (hc : CmpQ b g fs cs H0 l0 cf) (ho : Ordr cf) {a e : Nat} (hae : a < e ∧ e ≤ l0.length) (hl : l0.length ≤ 100000)
    (hK : ∀ H' l', SqS b H0 l0 l' H' → PermR a e l l' → SortR cf a e l' → K (.tup []) H') : VCall tbl lim 101 [.sl b 0 l0.length 4, .int .i64 a, .int .i64 e, .func (.func g) fs cs] H K := by
  refine VCall_fn tbl_at101 rfl ?_
  have hn := hs.n
  obtain ⟨d, rfl⟩ : ∃ d, e = a + d := ⟨e - a, by omega⟩
  have ed : ((a + d : Nat) : Int) - (a : Int) = (d : Int) := by omega
  have e0 : (a : Int) + (d : Int) - (a : Int) = (d : Int) := by omega
  have eq2 : ((d : Int) - 1).tdiv 2 = (((d - 1) / 2 : Nat) : Int) := by
    have : (d : Int) - 1 = ((d - 1 : Nat) : Int) := by omega
    rw [this]; exact tdiv_nat _ 2
  simp (disch := omega) [vf101, wrap_i64, ed, e0, eq2]
  refine wLoop_post 0 (fun fr L H' => ∃ l', (fr 0 = .sl b 0 l0.length 4 ∧ fr 3 = .func (.func g) fs cs ∧ fr 8 = .int .i64 a ∧ fr 9 = .int .i64 0 ∧ fr 10 = .int .i64 d) ∧ L = [] ∧ SqS b H0 l0 l' H' ∧ PermR a (a + d) l l' ∧ HpR cf a 0 d l') ?_ ?_
  · refine wLoop_m (n := (d - 1) / 2 + 1) (fun m fr L H' => ∃ l', (fr 0 = .sl b 0 l0.length 4 ∧ fr 3 = .func (.func g) fs cs ∧ fr 8 = .int .i64 a ∧ fr 9 = .int .i64 0 ∧ fr 10 = .int .i64 d ∧ fr 11 = .int .i64 ((m : Nat) - 1 : Int)) ∧ L = [] ∧ SqS b H0 l0 l' H' ∧ PermR a (a + d) l l' ∧ HpR cf a m d l' ∧ m ≤ (d - 1) / 2 + 1) ⟨l, by simp, rfl, hs, PermR.refl, HpR.none, Nat.le_refl _⟩ ?_
    rintro m fr L H' ⟨l', ⟨f0, f3, f8, f9, f10, f11⟩, rfl, hr, hp, hH, hm⟩
    have hlen := hp.len
    simp [f0, f3, f8, f9, f10, f11]
    refine cond_dec (fun ht => ?_) fun ht => ?_
    · obtain ⟨k, rfl⟩ : ∃ k, m = k + 1 := ⟨m - 1, by omega⟩
      have e1 : ((k + 1 : Nat) : Int) - 1 = (k : Int) := by omega
      have e2 : (k : Int) + 1 - 1 = (k : Int) := by omega
      simp [f0, f3, f8, f9, f10, f11, e1, e2, hst]
      refine sq_sift hr hlim hst hc ho (f := a) (lo := k) (hi := d) (by omega) hl hH fun H2 l2 hr2 hp2 hH2 => ?_
      simp (disch := omega) [f0, f3, f8, f9, f10, f11, e1, e2, wrap_i64]
      exact ⟨k, by omega, by omega, l2, hr2, hp.trans hp2, hH2, by omega⟩
    · have : m = 0 := by omega
      subst this
      simp [f0, f3, f8, f9, f10]
      exact ⟨l', hr, hp, hH⟩
  rintro fr L H' ⟨l', ⟨f0, f3, f8, f9, f10⟩, rfl, hr, hp, hH⟩
  simp (disch := omega) [f0, f3, f8, f9, f10, wrap_i64]
  refine wLoop_m (n := d) (fun m fr L H' => ∃ l', (fr 0 = .sl b 0 l0.length 4 ∧ fr 3 = .func (.func g) fs cs ∧ fr 8 = .int .i64 a ∧ fr 9 = .int .i64 0 ∧ fr 10 = .int .i64 d ∧ fr 12 = .int .i64 ((m : Nat) - 1 : Int)) ∧ L = [] ∧ SqS b H0 l0 l' H' ∧ PermR a (a + d) l l' ∧ HpR cf a 0 m l' ∧ OutR cf a (a + d) a (a + m) l' ∧ m ≤ d) ⟨l', by simp [f0, f3, f8, f9, f10], rfl, hr, hp, hH, OutR.start (by omega), Nat.le_refl _⟩ ?_
  clear f0 f3 f8 f9 f10 hr hp hH l'
  rintro m fr L H' ⟨l', ⟨f0, f3, f8, f9, f10, f12⟩, rfl, hr, hp, hH, hO, hm⟩
  have hlen := hp.len
  simp [f0, f3, f8, f9, f10, f12]
  refine cond_dec (fun ht => ?_) fun ht => ?_
  · obtain ⟨k, rfl⟩ : ∃ k, m = k + 1 := ⟨m - 1, by omega⟩
    have e1 : ((k + 1 : Nat) : Int) - 1 = (k : Int) := by omega
    have e2 : (k : Int) + 1 - 1 = (k : Int) := by omega
    have e3 : ((a : Int) + (k : Int)).toNat = a + k := by omega
    have g1 := fun L => sq_ld hr.row (i := a) (by omega) (L := L)
    have g2 := fun L => sq_ld hr.row (i := a + k) (by omega) (L := L)
    have w1 := fun L => sq_w1 hr hlim (i := a) (by omega) (L := L) (gE l' (a + k))
    have w2 := fun L => sq_w2 hr hlim (i := a) (j := a + k) (by omega) (L := L)
    have hr4 := hr.swap (i := a) (j := a + k) (by omega) (by omega)
    have hps := hp.trans (swp_perm (l := l') (i := a) (j := a + k) (a := a) (b := a + d) ⟨by omega, by omega⟩ ⟨by omega, by omega⟩ (by omega))
    obtain ⟨hH1, hO1⟩ := hH.pop ho hO (by omega)
    simp (disch := omega) [f0, f3, f8, f9, f10, f12, e1, e2, e3, wrap_i64, g1, g2, w1, w2, hst, sq_addr, -viaddrS_in, -vstore, -vload_ptrO]
    refine sq_sift hr4 hlim hst hc ho (f := a) (lo := 0) (hi := k) (by omega) hl hH1 fun H2 l2 hr2 hp2 hH2 => ?_
    simp (disch := omega) [f0, f3, f8, f9, f10, f12, e1, e2, wrap_i64]
    exact ⟨k, by omega, by omega, l2, hr2, hps.trans (hp2.wide (Nat.le_refl _) (by omega)), hH2, hO1.perm hp2 (by rw [swp_len]; omega), by omega⟩
  · have : m = 0 := by omega
    subst this
    simp
    exact hK _ _ hr hp (hO.sort fun p q h1 h2 h3 => by omega)
theorem sq_part (hs : SqS b H0 l0 l H) (hlim : lim ≤ b) (hst : allStor fs = true ∧ allStor cs = true) (hc : CmpQ b g fs cs H0 l0 cf) (ho : Ordr cf) {a e v : Nat} (hae : a ≤ v ∧ v < e ∧ e ≤ l0.length) (hl : l0.length ≤ 100000)
    (hK : ∀ H' l' m ok, SqS b H0 l0 l' H' → PermR a e l l' → PartR cf a e m l' → K (.tup [.int .i64 (m : Nat), .bool ok]) H') : VCall tbl lim 107 [.sl b 0 l0.length 4, .int .i64 a, .int .i64 e, .int .i64 v, .func (.func g) fs cs] H K := by
  refine VCall_fn tbl_at107 rfl ?_
  have hn := hs.n
  have g1 := fun L => sq_ld hs.row (i := a) (by omega) (L := L)
  have g2 := fun L => sq_ld hs.row (i := v) (by omega) (L := L)
  have w1 := fun L => sq_w1 hs hlim (i := a) (by omega) (L := L) (gE l v)
  have w2 := fun L => sq_w2 hs hlim (i := a) (j := v) (by omega) (L := L)
  have hs1 := hs.swap (i := a) (j := v) (by omega) (by omega)
  have hp1 : PermR a e l (swp l a v) := swp_perm ⟨by omega, by omega⟩ ⟨by omega, by omega⟩ (by omega)
  have e0 : (e : Int) - 1 = ((e - 1 : Nat) : Int) := by omega
  simp (disch := omega) [vf107, wrap_i64, g1, g2, w1, w2, hst, sq_addr, e0, -viaddrS_in, -vstore, -vload_ptrO]
  refine wLoop_post 0 (fun fr L H' => ∃ l' i j, (fr 0 = .sl b 0 l0.length 4 ∧ fr 1 = .int .i64 a ∧ fr 4 = .func (.func g) fs cs ∧ fr 12 = .int .i64 (i : Nat) ∧ fr 13 = .int .i64 (j : Nat)) ∧ L = [] ∧ SqS b H0 l0 l' H' ∧ PermR a e l l' ∧ PtI cf a e i j l' ∧ j + 1 - i ≤ (e - a) ∧ (i ≤ j → ¬ cf (gE l' i) (gE l' a) < 0)) ?_ ?_
  · refine wLoop_m (n := (e - a)) (fun m fr L H' => ∃ l' i j, (fr 0 = .sl b 0 l0.length 4 ∧ fr 1 = .int .i64 a ∧ fr 4 = .func (.func g) fs cs ∧ fr 12 = .int .i64 (i : Nat) ∧ fr 13 = .int .i64 (j : Nat)) ∧ L = [] ∧ SqS b H0 l0 l' H' ∧ PermR a e l l' ∧ PtI cf a e i j l' ∧ j + 1 - i ≤ m ∧ m ≤ (e - a)) ⟨swp l a v, a + 1, e - 1, by simp, rfl, hs1, hp1, PtI.start (by omega), by omega, Nat.le_refl _⟩ ?_
    rintro m fr L H' ⟨l', i, j, ⟨f0, f1, f4, f12, f13⟩, rfl, hr, hp, hI, hm, hm2⟩
    have hrg := hI.rng
    have hlen := hp.len
    by_cases hij : i ≤ j
    · have hgt : ((i : Int) ≤ (j : Int)) = True := eq_true (by omega)
      have g1 := fun L => sq_ld hr.row (i := i) (by omega) (L := L)
      have g2 := fun L => sq_ld hr.row (i := a) (by omega) (L := L)
      simp (disch := omega) [f0, f1, f4, f12, f13, hgt, wrap_i64, g1, g2, hst, sq_addr, -viaddrS_in, -vload_ptrO]
      refine hc.at hr (i := i) (j := a) (by omega) (by omega) fun H2 x2 hr2 => ?_
      simp
      refine cond_dec (fun hlt => ?_) fun hlt => ?_
      · simp (disch := omega) [f0, f1, f4, f12, f13, wrap_i64]
        exact ⟨m - 1, by omega, l', i + 1, j, by omega, hr2, hp, hI.up hij hlt, by omega, by omega⟩
      · simp [f0, f1, f4, f12, f13]
        exact ⟨l', i, j, by omega, hr2, hp, hI, by omega, fun _ => by omega⟩
    · have hgt : ((i : Int) ≤ (j : Int)) = False := eq_false (by omega)
      simp (disch := omega) [f0, f1, f4, f12, f13, hgt]
      exact ⟨l', i, j, by omega, hr, hp, hI, by omega, fun h => absurd h hij⟩
  rintro fr L H' ⟨l', i, j, ⟨f0, f1, f4, f12, f13⟩, rfl, hr, hp, hI, hm, hup⟩
  simp [f0, f1, f4, f12, f13]
  refine wLoop_post 2 (fun fr L H' => ∃ l' i j, (fr 0 = .sl b 0 l0.length 4 ∧ fr 1 = .int .i64 a ∧ fr 4 = .func (.func g) fs cs ∧ fr 12 = .int .i64 (i : Nat) ∧ fr 13 = .int .i64 (j : Nat)) ∧ L = [] ∧ SqS b H0 l0 l' H' ∧ PermR a e l l' ∧ PtI cf a e i j l' ∧ j + 1 - i ≤ (e - a) ∧ (i ≤ j → ¬ cf (gE l' i) (gE l' a) < 0) ∧ (i ≤ j → cf (gE l' j) (gE l' a) < 0)) ?_ ?_
  · refine wLoop_m (n := (e - a)) (fun m fr L H' => ∃ l' i j, (fr 0 = .sl b 0 l0.length 4 ∧ fr 1 = .int .i64 a ∧ fr 4 = .func (.func g) fs cs ∧ fr 12 = .int .i64 (i : Nat) ∧ fr 13 = .int .i64 (j : Nat)) ∧ L = [] ∧ SqS b H0 l0 l' H' ∧ PermR a e l l' ∧ PtI cf a e i j l' ∧ (i ≤ j → ¬ cf (gE l' i) (gE l' a) < 0) ∧ j + 1 - i ≤ m ∧ m ≤ (e - a)) ⟨l', i, j, by simp [f0, f1, f4, f12, f13], rfl, hr, hp, hI, hup, hm, Nat.le_refl _⟩ ?_
    clear f0 f1 f4 f12 f13 hr hp hI hup hm l' i j
    rintro m fr L H' ⟨l', i, j, ⟨f0, f1, f4, f12, f13⟩, rfl, hr, hp, hI, hup, hm, hm2⟩
    have hrg := hI.rng
    have hlen := hp.len
    by_cases hij : i ≤ j
    · have hgt : ((i : Int) ≤ (j : Int)) = True := eq_true (by omega)
      have g1 := fun L => sq_ld hr.row (i := j) (by omega) (L := L)
      have g2 := fun L => sq_ld hr.row (i := a) (by omega) (L := L)
      simp (disch := omega) [f0, f1, f4, f12, f13, hgt, wrap_i64, g1, g2, hst, sq_addr, -viaddrS_in, -vload_ptrO]
      refine hc.at hr (i := j) (j := a) (by omega) (by omega) fun H2 x2 hr2 => ?_
      simp
      refine cond_ndec (fun hlt => ?_) fun hlt => ?_
      · have e1 : (j : Int) - 1 = ((j - 1 : Nat) : Int) := by omega
        simp (disch := omega) [f0, f1, f4, f12, f13, wrap_i64, e1]
        exact ⟨m - 1, by omega, l', i, j - 1, by omega, hr2, hp, hI.down hij hlt, fun h => by have := hup (by omega); omega, by omega, by omega⟩
      · simp [f0, f1, f4, f12, f13]
        exact ⟨l', i, j, by omega, hr2, hp, hI, by omega, fun h => by have := hup h; omega, fun _ => by omega⟩
    · have hgt : ((i : Int) ≤ (j : Int)) = False := eq_false (by omega)
      simp (disch := omega) [f0, f1, f4, f12, f13, hgt]
      exact ⟨l', i, j, by omega, hr, hp, hI, by omega, fun h => absurd h hij, fun h => absurd h hij⟩
  clear f0 f1 f4 f12 f13 hr hp hI hup hm l' i j
  rintro fr L H' ⟨l', i, j, ⟨f0, f1, f4, f12, f13⟩, rfl, hr, hp, hI, hm, hup, hdn⟩
  have hrg := hI.rng
  have hlen := hp.len
  by_cases hij : i ≤ j
  · have hgt : ((j : Int) < (i : Int)) = False := eq_false (by omega)
    have hi0 := hup hij
    have hj0 := hdn hij
    have g1 := fun L => sq_ld hr.row (i := i) (by omega) (L := L)
    have g2 := fun L => sq_ld hr.row (i := j) (by omega) (L := L)
    have w1 := fun L => sq_w1 hr hlim (i := i) (by omega) (L := L) (gE l' j)
    have w2 := fun L => sq_w2 hr hlim (i := i) (j := j) (by omega) (L := L)
    have hr4 := hr.swap (i := i) (j := j) (by omega) (by omega)
    have hps := hp.trans (swp_perm (l := l') (i := i) (j := j) (a := a) (b := e) ⟨by omega, by omega⟩ ⟨by omega, by omega⟩ (by omega))
    have hI2 := hI.swap ho hij (by omega) hi0 hj0
    have hrg2 := hI2.rng
    have e1 : (j : Int) - 1 = ((j - 1 : Nat) : Int) := by omega
    simp (disch := omega) [f0, f1, f4, f12, f13, hgt, e1, wrap_i64, g1, g2, w1, w2, hst, sq_addr, -viaddrS_in, -vstore, -vload_ptrO]
    refine wLoop_m (n := (e - a)) (fun m fr L H' => ∃ l' i j, (fr 0 = .sl b 0 l0.length 4 ∧ fr 1 = .int .i64 a ∧ fr 4 = .func (.func g) fs cs ∧ fr 12 = .int .i64 (i : Nat) ∧ fr 13 = .int .i64 (j : Nat)) ∧ L = [] ∧ SqS b H0 l0 l' H' ∧ PermR a e l l' ∧ PtI cf a e i j l' ∧ j + 1 - i ≤ m ∧ m ≤ (e - a)) ⟨swp l' i j, i + 1, j - 1, by simp [f0, f1, f4, f12, f13], rfl, hr4, hps, hI2, by omega, Nat.le_refl _⟩ ?_
    clear f0 f1 f4 f12 f13 hr hp hI hup hdn hm hrg hlen hij hgt hi0 hj0 g1 g2 w1 w2 hr4 hps hI2 hrg2 e1 l' i j
    rintro n fr L H' ⟨l', i, j, ⟨f0, f1, f4, f12, f13⟩, rfl, hr, hp, hI, hm, hn2⟩
    simp [f0, f1, f4, f12, f13]
    refine wLoop_post 6 (fun fr L H' => ∃ l' i j, (fr 0 = .sl b 0 l0.length 4 ∧ fr 1 = .int .i64 a ∧ fr 4 = .func (.func g) fs cs ∧ fr 12 = .int .i64 (i : Nat) ∧ fr 13 = .int .i64 (j : Nat)) ∧ L = [] ∧ SqS b H0 l0 l' H' ∧ PermR a e l l' ∧ PtI cf a e i j l' ∧ j + 1 - i ≤ n ∧ (i ≤ j → ¬ cf (gE l' i) (gE l' a) < 0)) ?_ ?_
    · refine wLoop_m (n := n) (fun m fr L H' => ∃ l' i j, (fr 0 = .sl b 0 l0.length 4 ∧ fr 1 = .int .i64 a ∧ fr 4 = .func (.func g) fs cs ∧ fr 12 = .int .i64 (i : Nat) ∧ fr 13 = .int .i64 (j : Nat)) ∧ L = [] ∧ SqS b H0 l0 l' H' ∧ PermR a e l l' ∧ PtI cf a e i j l' ∧ j + 1 - i ≤ m ∧ m ≤ n) ⟨l', i, j, by simp [f0, f1, f4, f12, f13], rfl, hr, hp, hI, hm, Nat.le_refl _⟩ ?_
      clear f0 f1 f4 f12 f13 hr hp hI hm l' i j
      rintro m fr L H' ⟨l', i, j, ⟨f0, f1, f4, f12, f13⟩, rfl, hr, hp, hI, hm, hm2⟩
      have hrg := hI.rng
      have hlen := hp.len
      by_cases hij : i ≤ j
      · have hgt : ((i : Int) ≤ (j : Int)) = True := eq_true (by omega)
        have g1 := fun L => sq_ld hr.row (i := i) (by omega) (L := L)
        have g2 := fun L => sq_ld hr.row (i := a) (by omega) (L := L)
        simp (disch := omega) [f0, f1, f4, f12, f13, hgt, wrap_i64, g1, g2, hst, sq_addr, -viaddrS_in, -vload_ptrO]
        refine hc.at hr (i := i) (j := a) (by omega) (by omega) fun H2 x2 hr2 => ?_
        simp
        refine cond_dec (fun hlt => ?_) fun hlt => ?_
        · simp (disch := omega) [f0, f1, f4, f12, f13, wrap_i64]
          exact ⟨m - 1, by omega, l', i + 1, j, by omega, hr2, hp, hI.up hij hlt, by omega, by omega⟩
        · simp [f0, f1, f4, f12, f13]
          exact ⟨l', i, j, by omega, hr2, hp, hI, by omega, fun _ => by omega⟩
      · have hgt : ((i : Int) ≤ (j : Int)) = False := eq_false (by omega)
        simp (disch := omega) [f0, f1, f4, f12, f13, hgt]
        exact ⟨l', i, j, by omega, hr, hp, hI, by omega, fun h => absurd h hij⟩
    clear f0 f1 f4 f12 f13 hr hp hI hm l' i j
    rintro fr L H' ⟨l', i, j, ⟨f0, f1, f4, f12, f13⟩, rfl, hr, hp, hI, hm, hup⟩
    simp [f0, f1, f4, f12, f13]
    refine wLoop_post 8 (fun fr L H' => ∃ l' i j, (fr 0 = .sl b 0 l0.length 4 ∧ fr 1 = .int .i64 a ∧ fr 4 = .func (.func g) fs cs ∧ fr 12 = .int .i64 (i : Nat) ∧ fr 13 = .int .i64 (j : Nat)) ∧ L = [] ∧ SqS b H0 l0 l' H' ∧ PermR a e l l' ∧ PtI cf a e i j l' ∧ j + 1 - i ≤ n ∧ (i ≤ j → ¬ cf (gE l' i) (gE l' a) < 0) ∧ (i ≤ j → cf (gE l' j) (gE l' a) < 0)) ?_ ?_
    · refine wLoop_m (n := n) (fun m fr L H' => ∃ l' i j, (fr 0 = .sl b 0 l0.length 4 ∧ fr 1 = .int .i64 a ∧ fr 4 = .func (.func g) fs cs ∧ fr 12 = .int .i64 (i : Nat) ∧ fr 13 = .int .i64 (j : Nat)) ∧ L = [] ∧ SqS b H0 l0 l' H' ∧ PermR a e l l' ∧ PtI cf a e i j l' ∧ (i ≤ j → ¬ cf (gE l' i) (gE l' a) < 0) ∧ j + 1 - i ≤ m ∧ m ≤ n) ⟨l', i, j, by simp [f0, f1, f4, f12, f13], rfl, hr, hp, hI, hup, hm, Nat.le_refl _⟩ ?_
      clear f0 f1 f4 f12 f13 hr hp hI hup hm l' i j
      rintro m fr L H' ⟨l', i, j, ⟨f0, f1, f4, f12, f13⟩, rfl, hr, hp, hI, hup, hm, hm2⟩
      have hrg := hI.rng
      have hlen := hp.len
      by_cases hij : i ≤ j
      · have hgt : ((i : Int) ≤ (j : Int)) = True := eq_true (by omega)
        have g1 := fun L => sq_ld hr.row (i := j) (by omega) (L := L)
        have g2 := fun L => sq_ld hr.row (i := a) (by omega) (L := L)
        simp (disch := omega) [f0, f1, f4, f12, f13, hgt, wrap_i64, g1, g2, hst, sq_addr, -viaddrS_in, -vload_ptrO]
        refine hc.at hr (i := j) (j := a) (by omega) (by omega) fun H2 x2 hr2 => ?_
        simp
        refine cond_ndec (fun hlt => ?_) fun hlt => ?_
        · have e1 : (j : Int) - 1 = ((j - 1 : Nat) : Int) := by omega
          simp (disch := omega) [f0, f1, f4, f12, f13, wrap_i64, e1]
          exact ⟨m - 1, by omega, l', i, j - 1, by omega, hr2, hp, hI.down hij hlt, fun h => by have := hup (by omega); omega, by omega, by omega⟩
        · simp [f0, f1, f4, f12, f13]
          exact ⟨l', i, j, by omega, hr2, hp, hI, by omega, fun h => by have := hup h; omega, fun _ => by omega⟩
      · have hgt : ((i : Int) ≤ (j : Int)) = False := eq_false (by omega)
        simp (disch := omega) [f0, f1, f4, f12, f13, hgt]
        exact ⟨l', i, j, by omega, hr, hp, hI, by omega, fun h => absurd h hij, fun h => absurd h hij⟩
    clear f0 f1 f4 f12 f13 hr hp hI hup hm l' i j
    rintro fr L H' ⟨l', i, j, ⟨f0, f1, f4, f12, f13⟩, rfl, hr, hp, hI, hm, hup, hdn⟩
    have hrg := hI.rng
    have hlen := hp.len
    by_cases hij : i ≤ j
    · have hgt : ((j : Int) < (i : Int)) = False := eq_false (by omega)
      have hi0 := hup hij
      have hj0 := hdn hij
      have g1 := fun L => sq_ld hr.row (i := i) (by omega) (L := L)
      have g2 := fun L => sq_ld hr.row (i := j) (by omega) (L := L)
      have w1 := fun L => sq_w1 hr hlim (i := i) (by omega) (L := L) (gE l' j)
      have w2 := fun L => sq_w2 hr hlim (i := i) (j := j) (by omega) (L := L)
      have hr4 := hr.swap (i := i) (j := j) (by omega) (by omega)
      have hps := hp.trans (swp_perm (l := l') (i := i) (j := j) (a := a) (b := e) ⟨by omega, by omega⟩ ⟨by omega, by omega⟩ (by omega))
      have hI2 := hI.swap ho hij (by omega) hi0 hj0
      have hrg2 := hI2.rng
      have e1 : (j : Int) - 1 = ((j - 1 : Nat) : Int) := by omega
      simp (disch := omega) [f0, f1, f4, f12, f13, hgt, e1, wrap_i64, g1, g2, w1, w2, hst, sq_addr, -viaddrS_in, -vstore, -vload_ptrO]
      exact ⟨n - 1, by omega, _, i + 1, j - 1, by omega, hr4, hps, hI2, by omega, by omega⟩
    · have hgt : ((j : Int) < (i : Int)) = True := eq_true (by omega)
      have hij2 : ¬ i ≤ j := hij
      have g1 := fun L => sq_ld hr.row (i := j) (by omega) (L := L)
      have g2 := fun L => sq_ld hr.row (i := a) (by omega) (L := L)
      have w1 := fun L => sq_w1 hr hlim (i := j) (by omega) (L := L) (gE l' a)
      have w2 := fun L => sq_w2 hr hlim (i := j) (j := a) (by omega) (L := L)
      have hr4 := hr.swap (i := j) (j := a) (by omega) (by omega)
      have hps := hp.trans (swp_perm (l := l') (i := j) (j := a) (a := a) (b := e) ⟨by omega, by omega⟩ ⟨by omega, by omega⟩ (by omega))
      simp (disch := omega) [f0, f1, f4, f12, f13, hgt, wrap_i64, g1, g2, w1, w2, hst, sq_addr, -viaddrS_in, -vstore, -vload_ptrO]
      exact hK _ _ j false hr4 hps (hI.done ho hij2 (by omega))
  · have hgt : ((j : Int) < (i : Int)) = True := eq_true (by omega)
    have hij2 : ¬ i ≤ j := hij
    have g1 := fun L => sq_ld hr.row (i := j) (by omega) (L := L)
    have g2 := fun L => sq_ld hr.row (i := a) (by omega) (L := L)
    have w1 := fun L => sq_w1 hr hlim (i := j) (by omega) (L := L) (gE l' a)
    have w2 := fun L => sq_w2 hr hlim (i := j) (j := a) (by omega) (L := L)
    have hr4 := hr.swap (i := j) (j := a) (by omega) (by omega)
    have hps := hp.trans (swp_perm (l := l') (i := j) (j := a) (a := a) (b := e) ⟨by omega, by omega⟩ ⟨by omega, by omega⟩ (by omega))
    simp (disch := omega) [f0, f1, f4, f12, f13, hgt, wrap_i64, g1, g2, w1, w2, hst, sq_addr, -viaddrS_in, -vstore, -vload_ptrO]
    exact hK _ _ j true hr4 hps (hI.done ho hij2 (by omega))
end
end Go.Proofs.Ytkmcdiajcnejiaa.Vm
