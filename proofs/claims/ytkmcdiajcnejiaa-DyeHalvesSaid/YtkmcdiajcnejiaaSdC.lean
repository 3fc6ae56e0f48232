/- Quicksort over the machine (api.Part): partition into equal and greater, partial insertion sort, pivots. -/
import Derived.Test.YtkmcdiajcnejiaaSdB
namespace Go.Proofs.Ytkmcdiajcnejiaa.Vm
open Go
set_option maxRecDepth 100000
set_option maxHeartbeats 1000000
set_option linter.unusedSimpArgs false
set_option linter.unusedVariables false
attribute [-simp] List.getD_eq_getElem?_getD
section
variable {T : Tbl} {lim : Nat}
theorem wVal_mon {o : VOper} {s : St} {K K' : V → Lo → Hp → Prop} (h : wVal T lim o s K) (hk : ∀ v L H, K v L H → K' v L H) : wVal T lim o s K' := by
  unfold wVal at h ⊢
  split
  · rename_i hw
    rw [if_pos hw] at h
    split
    · rename_i h1; rw [h1] at h; exact hk _ _ _ h
    · rename_i h1; rw [h1] at h; exact h.mono fun v H => hk _ _ _
    · rename_i h1; rw [h1] at h; exact h
  · rename_i hw
    rw [if_neg hw] at h; exact hk _ _ _ h
theorem wOps_mon : ∀ {l : List VOper} {s : St} {K K' : St → Prop}, wOps T lim l K s → (∀ s, K s → K' s) → wOps T lim l K' s
  | [], s, K, K', h, hk => hk _ h
  | o :: l, s, K, K', h, hk => wVal_mon h fun _ _ _ h2 => wOps_mon h2 hk
theorem wHead_mon : ∀ {l : List VOper} {k : Nat} {acc : List (Nat × Nat)} {s : St} {K K' : St → Prop}, wHead T k l acc K s → (∀ s, K s → K' s) → wHead T k l acc K' s
  | [], k, acc, s, K, K', h, hk => hk _ h
  | o :: l, k, acc, s, K, K', h, hk => by
    simp only [wHead] at h ⊢
    split
    · rename_i h1; rw [h1] at h; exact h
    · rename_i h1; rw [h1] at h; exact wVal_mon h fun _ _ _ h2 => wHead_mon h2 hk
theorem wHeadS_mon : ∀ {l : List VOper} {k : Nat} {acc : List (Nat × Nat)} {hp : HpAcc} {s : St} {K K' : St → Prop}, wHeadS T lim k l acc hp K s → (∀ s, K s → K' s) → wHeadS T lim k l acc hp K' s
  | [], k, acc, hp, s, K, K', h, hk => hk _ h
  | o :: l, k, acc, hp, s, K, K', h, hk => by
    simp only [wHeadS] at h ⊢
    split
    · rename_i h1; rw [h1] at h; exact h
    · rename_i h1; rw [h1] at h; exact wVal_mon h fun _ _ _ h2 => wHeadS_mon h2 hk
theorem wCode_mon : ∀ {c : VCode} {Q Q' : VExit → St → Prop} {s : St}, wCode T lim c Q s → (∀ e s, Q e s → Q' e s) → wCode T lim c Q' s
  | .skip, Q, Q', s, h, hq => hq _ _ h
  | .reg ops, Q, Q', s, h, hq => wOps_mon h fun s => hq _ s
  | .draw hd t, Q, Q', s, h, hq => wHead_mon h fun s h2 => wOps_mon h2 fun s => hq _ s
  | .drawS hd t, Q, Q', s, h, hq => wHeadS_mon h fun s h2 => wOps_mon h2 fun s => hq _ s
  | .seq a b, Q, Q', s, h, hq => wCode_mon (c := a) h fun e s h2 => by
    cases e with
    | normal => exact wCode_mon (c := b) h2 hq
    | exit id => exact hq _ _ h2
    | ret => exact hq _ _ h2
  | .cond c a b, Q, Q', s, h, hq => by
    simp only [wCode] at h ⊢
    split
    · rename_i h1; rw [h1] at h; exact wCode_mon (c := a) h hq
    · rename_i h1; rw [h1] at h; exact wCode_mon (c := b) h hq
    · rename_i h1 h2
      split at h
      · rename_i h3; exact absurd h3 h1
      · rename_i h3; exact absurd h3 h2
      · exact h
  | .block id body, Q, Q', s, h, hq => wCode_mon (c := body) h fun e s h2 => by
    cases e with
    | normal => exact hq _ _ h2
    | exit id' =>
      simp only [blockQ] at h2 ⊢
      split
      · rename_i h3; rw [if_pos h3] at h2; exact hq _ _ h2
      · rename_i h3; rw [if_neg h3] at h2; exact hq _ _ h2
    | ret => exact hq _ _ h2
  | .loop body, Q, Q', s, h, hq => by
    obtain ⟨n, e, s', h1, h2⟩ := h
    exact ⟨n, e, s', h1, hq _ _ h2⟩
  | .scope body, Q, Q', s, h, hq => wCode_mon (c := body) h hq
  | .exit id, Q, Q', s, h, hq => hq _ _ h
  | .ret, Q, Q', s, h, hq => hq _ _ h
  | .stuck, Q, Q', s, h, hq => h
/-- two ways that come together again -/
theorem wCond_join {c : Bool} {X Y : VCode} {Q : VExit → St → Prop} {s : St} (P : Fr → Lo → Hp → Prop) (hX : c = true → wCode T lim X (seqQ (fun s' => P s'.fr s'.L s'.H) Q) s) (hY : c = false → wCode T lim Y (seqQ (fun s' => P s'.fr s'.L s'.H) Q) s)
    (hR : ∀ fr L H, P fr L H → Q .normal ⟨fr, L, H⟩) : wCond T lim (.bool c) X Y Q s := by
  have hm : ∀ e s, seqQ (fun s' => P s'.fr s'.L s'.H) Q e s → Q e s := fun e s h => by
    cases e with
    | normal => exact hR _ _ _ h
    | exit id => exact h
    | ret => exact h
  cases c with
  | true => exact wCode_mon (hX rfl) hm
  | false => exact wCode_mon (hY rfl) hm
theorem wSeq_join {A B : VCode} {Q : VExit → St → Prop} {s : St} (P : Fr → Lo → Hp → Prop) (hA : wCode T lim A (seqQ (fun s' => P s'.fr s'.L s'.H) Q) s) (hR : ∀ fr L H, P fr L H → wCode T lim B Q ⟨fr, L, H⟩) : wCode T lim (.seq A B) Q s :=
  wCode_mon (c := A) hA fun e s h => by
    cases e with
    | normal => exact hR _ _ _ h
    | exit id => exact h
    | ret => exact h
end
section
variable {lim : Nat} {H H0 : Hp} {K : V → Hp → Prop} {b g : Nat} {l l0 : List EQ} {cf : EQ → EQ → Int} {fs cs : List V}
theorem sq_partEq (hs : SqS b H0 l0 l H) (hlim : lim ≤ b) (hst : allStor fs = true ∧ allStor cs = true) (hc : CmpQ b g fs cs H0 l0 cf) (ho : Ordr cf) {a e v : Nat} (hae : a ≤ v ∧ v < e ∧ e ≤ l0.length) (hl : l0.length ≤ 100000)
    (hmin : ∀ k, a ≤ k → k < e → leC cf (l.getD v default) (l.getD k default))
    (hK : ∀ H' l' m, SqS b H0 l0 l' H' → PermR a e l l' → (a < m ∧ m ≤ e) → (∀ p q, a ≤ p → p < m → p < q → q < e → leC cf (l'.getD p default) (l'.getD q default)) → K (.int .i64 (m : Nat)) H') : VCall tbl lim 106 [.sl b 0 l0.length 4, .int .i64 a, .int .i64 e, .int .i64 v, .func (.func g) fs cs] H K := by
  refine VCall_fn tbl_at106 rfl ?_
  have hn := hs.n
  have g1 := fun L => sq_ld hs.row (i := a) (by omega) (L := L)
  have g2 := fun L => sq_ld hs.row (i := v) (by omega) (L := L)
  have w1 := fun L => sq_w1 hs hlim (i := a) (by omega) (L := L) (gE l v)
  have w2 := fun L => sq_w2 hs hlim (i := a) (j := v) (by omega) (L := L)
  have hs1 := hs.swap (i := a) (j := v) (by omega) (by omega)
  have hp1 : PermR a e l (swp l a v) := swp_perm ⟨by omega, by omega⟩ ⟨by omega, by omega⟩ (by omega)
  have e0 : (e : Int) - 1 = ((e - 1 : Nat) : Int) := by omega
  have hm1 := least_swp (cf := cf) (l := l) (a := a) (b := e) (v := v) (by omega) (by omega) hmin
  simp (disch := omega) [vf106, wrap_i64, g1, g2, w1, w2, hst, sq_addr, e0, -viaddrS_in, -vstore, -vload_ptrO]
  refine wLoop_m (n := (e - a)) (fun m fr L H' => ∃ l' i j, (fr 0 = .sl b 0 l0.length 4 ∧ fr 1 = .int .i64 a ∧ fr 4 = .func (.func g) fs cs ∧ fr 11 = .int .i64 (i : Nat) ∧ fr 12 = .int .i64 (j : Nat)) ∧ L = [] ∧ SqS b H0 l0 l' H' ∧ PermR a e l l' ∧ PeI cf a e i j l' ∧ j + 1 - i ≤ m ∧ m ≤ (e - a)) ⟨swp l a v, a + 1, e - 1, by simp, rfl, hs1, hp1, PeI.start (by omega) hm1, by omega, Nat.le_refl _⟩ ?_
  rintro n fr L H' ⟨l', i, j, ⟨f0, f1, f4, f11, f12⟩, rfl, hr, hp, hI, hm, hn2⟩
  simp [f0, f1, f4, f11, f12]
  refine wLoop_post 2 (fun fr L H' => ∃ l' i j, (fr 0 = .sl b 0 l0.length 4 ∧ fr 1 = .int .i64 a ∧ fr 4 = .func (.func g) fs cs ∧ fr 11 = .int .i64 (i : Nat) ∧ fr 12 = .int .i64 (j : Nat)) ∧ L = [] ∧ SqS b H0 l0 l' H' ∧ PermR a e l l' ∧ PeI cf a e i j l' ∧ j + 1 - i ≤ n ∧ (i ≤ j → cf (gE l' a) (gE l' i) < 0)) ?_ ?_
  · refine wLoop_m (n := n) (fun m fr L H' => ∃ l' i j, (fr 0 = .sl b 0 l0.length 4 ∧ fr 1 = .int .i64 a ∧ fr 4 = .func (.func g) fs cs ∧ fr 11 = .int .i64 (i : Nat) ∧ fr 12 = .int .i64 (j : Nat)) ∧ L = [] ∧ SqS b H0 l0 l' H' ∧ PermR a e l l' ∧ PeI cf a e i j l' ∧ j + 1 - i ≤ m ∧ m ≤ n) ⟨l', i, j, by simp [f0, f1, f4, f11, f12], rfl, hr, hp, hI, hm, Nat.le_refl _⟩ ?_
    clear f0 f1 f4 f11 f12 hr hp hI hm l' i j
    rintro m fr L H' ⟨l', i, j, ⟨f0, f1, f4, f11, f12⟩, rfl, hr, hp, hI, hm, hm2⟩
    have hrg := hI.rng
    have hlen := hp.len
    by_cases hij : i ≤ j
    · have hgt : ((i : Int) ≤ (j : Int)) = True := eq_true (by omega)
      have g1 := fun L => sq_ld hr.row (i := a) (by omega) (L := L)
      have g2 := fun L => sq_ld hr.row (i := i) (by omega) (L := L)
      simp (disch := omega) [f0, f1, f4, f11, f12, hgt, wrap_i64, g1, g2, hst, sq_addr, -viaddrS_in, -vload_ptrO]
      refine hc.at hr (i := a) (j := i) (by omega) (by omega) fun H2 x2 hr2 => ?_
      simp
      refine cond_ndec (fun hlt => ?_) fun hlt => ?_
      · simp (disch := omega) [f0, f1, f4, f11, f12, wrap_i64]
        exact ⟨m - 1, by omega, l', i + 1, j, by omega, hr2, hp, hI.up hij hlt, by omega, by omega⟩
      · simp [f0, f1, f4, f11, f12]
        exact ⟨l', i, j, by omega, hr2, hp, hI, by omega, fun _ => hlt⟩
    · have hgt : ((i : Int) ≤ (j : Int)) = False := eq_false (by omega)
      simp (disch := omega) [f0, f1, f4, f11, f12, hgt]
      exact ⟨l', i, j, by omega, hr, hp, hI, by omega, fun h => absurd h hij⟩
  clear f0 f1 f4 f11 f12 hr hp hI hm l' i j
  rintro fr L H' ⟨l', i, j, ⟨f0, f1, f4, f11, f12⟩, rfl, hr, hp, hI, hm, hup⟩
  simp [f0, f1, f4, f11, f12]
  refine wLoop_post 4 (fun fr L H' => ∃ l' i j, (fr 0 = .sl b 0 l0.length 4 ∧ fr 1 = .int .i64 a ∧ fr 4 = .func (.func g) fs cs ∧ fr 11 = .int .i64 (i : Nat) ∧ fr 12 = .int .i64 (j : Nat)) ∧ L = [] ∧ SqS b H0 l0 l' H' ∧ PermR a e l l' ∧ PeI cf a e i j l' ∧ j + 1 - i ≤ n ∧ (i ≤ j → cf (gE l' a) (gE l' i) < 0) ∧ (i ≤ j → ¬ cf (gE l' a) (gE l' j) < 0)) ?_ ?_
  · refine wLoop_m (n := n) (fun m fr L H' => ∃ l' i j, (fr 0 = .sl b 0 l0.length 4 ∧ fr 1 = .int .i64 a ∧ fr 4 = .func (.func g) fs cs ∧ fr 11 = .int .i64 (i : Nat) ∧ fr 12 = .int .i64 (j : Nat)) ∧ L = [] ∧ SqS b H0 l0 l' H' ∧ PermR a e l l' ∧ PeI cf a e i j l' ∧ (i ≤ j → cf (gE l' a) (gE l' i) < 0) ∧ j + 1 - i ≤ m ∧ m ≤ n) ⟨l', i, j, by simp [f0, f1, f4, f11, f12], rfl, hr, hp, hI, hup, hm, Nat.le_refl _⟩ ?_
    clear f0 f1 f4 f11 f12 hr hp hI hup hm l' i j
    rintro m fr L H' ⟨l', i, j, ⟨f0, f1, f4, f11, f12⟩, rfl, hr, hp, hI, hup, hm, hm2⟩
    have hrg := hI.rng
    have hlen := hp.len
    by_cases hij : i ≤ j
    · have hgt : ((i : Int) ≤ (j : Int)) = True := eq_true (by omega)
      have g1 := fun L => sq_ld hr.row (i := a) (by omega) (L := L)
      have g2 := fun L => sq_ld hr.row (i := j) (by omega) (L := L)
      simp (disch := omega) [f0, f1, f4, f11, f12, hgt, wrap_i64, g1, g2, hst, sq_addr, -viaddrS_in, -vload_ptrO]
      refine hc.at hr (i := a) (j := j) (by omega) (by omega) fun H2 x2 hr2 => ?_
      simp
      refine cond_dec (fun hlt => ?_) fun hlt => ?_
      · have e1 : (j : Int) - 1 = ((j - 1 : Nat) : Int) := by omega
        simp (disch := omega) [f0, f1, f4, f11, f12, e1, wrap_i64]
        exact ⟨m - 1, by omega, l', i, j - 1, by omega, hr2, hp, hI.down hij, fun h => hup (by omega), by omega, by omega⟩
      · simp [f0, f1, f4, f11, f12]
        exact ⟨l', i, j, by omega, hr2, hp, hI, by omega, hup, fun _ => by omega⟩
    · have hgt : ((i : Int) ≤ (j : Int)) = False := eq_false (by omega)
      simp (disch := omega) [f0, f1, f4, f11, f12, hgt]
      exact ⟨l', i, j, by omega, hr, hp, hI, by omega, fun h => absurd h hij, fun h => absurd h hij⟩
  clear f0 f1 f4 f11 f12 hr hp hI hup hm l' i j
  rintro fr L H' ⟨l', i, j, ⟨f0, f1, f4, f11, f12⟩, rfl, hr, hp, hI, hm, hup, hdn⟩
  have hrg := hI.rng
  have hlen := hp.len
  by_cases hij : i ≤ j
  · have hgt : ((j : Int) < (i : Int)) = False := eq_false (by omega)
    have hi0 := hup hij
    have hj0 := hdn hij
    have g1 := fun L => sq_ld hr.row (i := i) (by omega) (L := L)
    have g2 := fun L => sq_ld hr.row (i := j) (by omega) (L := L)
    have w1 := fun L => sq_w1 hr hlim (i := i) (by omega) (L := L) (gE l' j)
    have w2 := fun L => sq_w2 hr hlim (i := i) (j := j) (by omega) (L := L)
    have hr4 := hr.swap (i := i) (j := j) (by omega) (by omega)
    have hps := hp.trans (swp_perm (l := l') (i := i) (j := j) (a := a) (b := e) ⟨by omega, by omega⟩ ⟨by omega, by omega⟩ (by omega))
    have hI2 := hI.swap ho hij (by omega) hi0 hj0
    have hrg2 := hI2.rng
    have e1 : (j : Int) - 1 = ((j - 1 : Nat) : Int) := by omega
    simp (disch := omega) [f0, f1, f4, f11, f12, hgt, e1, wrap_i64, g1, g2, w1, w2, hst, sq_addr, -viaddrS_in, -vstore, -vload_ptrO]
    exact ⟨n - 1, by omega, _, i + 1, j - 1, by omega, hr4, hps, hI2, by omega, by omega⟩
  · have hgt : ((j : Int) < (i : Int)) = True := eq_true (by omega)
    simp [f0, f1, f4, f11, f12, hgt]
    exact hK _ _ i hr hp (by omega) (hI.done ho)
end
end Go.Proofs.Ytkmcdiajcnejiaa.Vm
