/- Package dye over the machine: the search for a gift, and the sharing. -/
import Derived.Test.YtlljkhhdhedajaaDyQ
namespace Go.Proofs.Ytlljkhhdhedajaa.Vm
open Go
set_option maxRecDepth 100000
set_option maxHeartbeats 2000000
set_option linter.unusedSimpArgs false
set_option linter.unusedVariables false
attribute [-simp] List.getD_eq_getElem?_getD
attribute [local simp] tgW
theorem wLoop_post {T : Tbl} {lim : Nat} {body : VCode} {Q : VExit → St → Prop} {s : St} (id : Nat) (P : Fr → Lo → Hp → Prop) (h : wCode T lim (.loop body) (fun e s => e = .exit id ∧ P s.fr s.L s.H) s) (hQ : ∀ fr L H, P fr L H → Q (.exit id) ⟨fr, L, H⟩) : wCode T lim (.loop body) Q s := by
  obtain ⟨n, e, s', h1, he, h2⟩ := h
  subst he
  exact ⟨n, _, s', h1, hQ _ _ _ h2⟩
/-- something was found: what is given when the want has it -/
def PendI (p : Net) (s : Fl) (tr : Nat → Bool) (w0 k : Nat) (m : Int) (cur : Fl) (t : Nat → Bool) (n : Int) : Prop :=
  0 < n ∧ n ≤ m ∧ ∀ s2 : Fl, (∀ l, l < p.nl → s2.left l = cur.left l) → (∀ w l, s2.g w l = cur.g w l + if w = w0 ∧ l = k then n else 0) → GetR p s tr w0 m s2 t n
section
variable {lim N : Nat} {H0 : Hp} {bv lv : V} {A : List Lot} {B : List Wnt}
theorem net_bd (hv : valP A B = 0) : A.length ≤ 6 ∧ B.length ≤ 6 ∧ (∀ i, i < A.length → 0 ≤ (A.getD i default).w ∧ (A.getD i default).w ≤ 1000) ∧ ∀ i, i < B.length → 0 ≤ (B.getD i default).w ∧ (B.getD i default).w ≤ 1000 := by
  unfold valP at hv
  split at hv
  · cases hv
  split at hv
  · cases hv
  split at hv
  · cases hv
  rename_i h1 h2 h3
  simp only [Bool.not_eq_false] at h2 h3
  refine ⟨by omega, by omega, fun i hi => ?_, fun i hi => ?_⟩
  · have := allN_at h2 hi
    simp only [lotB, Bool.and_eq_true, decide_eq_true_eq] at this
    exact this.2
  · have := allN_at h3 hi
    simp only [wntB, Bool.and_eq_true, decide_eq_true_eq] at this
    exact this.2.1
theorem flow_bd (hv : valP A B = 0) {s : Fl} (h : FlOk (netOf A B) s) : (∀ l, l < A.length → 0 ≤ s.left l ∧ s.left l ≤ 1000) ∧ ∀ w l, 0 ≤ s.g w l ∧ s.g w l ≤ 1000 := by
  obtain ⟨b1, b2, b3, b4⟩ := net_bd hv
  have nn : ∀ l, l < A.length → 0 ≤ su (fun w => s.g w l) B.length := fun l hl => su_nn fun w hw => (h.giv w hw l hl).1
  refine ⟨fun l hl => ?_, fun w l => ?_⟩
  · have h1 := h.lot l hl
    have h2 := b3 l hl
    have h3 := nn l hl
    simp only [netOf] at h1
    omega
  · by_cases e : B.length ≤ w ∨ A.length ≤ l
    · rw [h.out w l e]; omega
    · have hl : l < A.length := by omega
      have hw : w < B.length := by omega
      have h1 := h.lot l hl
      have h2 := b3 l hl
      have h3 := su_one (f := fun w => s.g w l) (n := B.length) (k := w) (fun i hi => (h.giv i hi l hl).1) hw
      have h4 := (h.giv w hw l hl).1
      simp only [netOf] at h1
      omega
theorem dye_get (hb0 : LstV wntC H0 bv B) (hv : valP A B = 0) (hlim : lim ≤ N) : ∀ (u : Nat) {H : Hp} {K : V → Hp → Prop} {l : List Lot} {g : List Int} {tr : List Bool} {w0 : Nat} {m : Int} {lim' : Nat}, lim' = lim → untN tr A.length ≤ u → ShS N H0 bv lv A l g tr H → w0 < B.length → 0 < m ∧ m ≤ 1000 → FlOk (netOf A B) (flOf l g) →
    (∀ H' l' g' tr' n, ShS N H0 bv lv A l' g' tr' H' → GetR (netOf A B) (flOf l g) (trF tr) w0 m (flOf l' g') (trF tr') n → K (.int .i64 n) H') →
    VCall tbl lim' 88 [.int .i64 w0, .int .i64 m, .ptr (N + 2) 0, .ptr (N + 4) 0, .ptr N 0, .ptr (N + 3) 0, .ptr (N + 5) 0] H K := by
  intro u
  induction u using Nat.strongRecOn with
  | ind u ih =>
    intro H K l0 g0 tr0 w0 m lim' hlim' hu hS hw hm hok hK
    subst hlim'
    obtain ⟨b1, b2, b3, b4⟩ := net_bd hv
    refine VCall_fn tbl_at88 rfl ?_
    have rd1 : ∀ x : V, rd none [x] 0 = some x := fun x => Eq.trans rfl rfl
    have ldB : ∀ L, vload none L H (.ptr (N + 2) 0) = some lv := fun L => by rw [vload_ptr hS.rB]; rfl
    have hll := hS.ll
    have hlen0 : vlenS lv = some (.int .i64 A.length) := by have := hS.own.lst.len; rwa [hll] at this
    simp [vf88, ldB, hlen0, -vload_ptrO]
    refine wLoop_up A.length (fun k fr L H' => ∃ l g tr, (fr 0 = .int .i64 w0 ∧ fr 1 = .int .i64 m ∧ fr 2 = .ptr (N + 2) 0 ∧ fr 3 = .ptr (N + 4) 0 ∧ fr 4 = .ptr N 0 ∧ fr 5 = .ptr (N + 3) 0 ∧ fr 6 = .ptr (N + 5) 0 ∧ fr 15 = .int .i64 A.length ∧ fr 16 = .int .i64 k) ∧ L = [] ∧ ShS N H0 bv lv A l g tr H' ∧ flOf l g = flOf l0 g0 ∧ LopI (netOf A B) (flOf l0 g0) (trF tr0) w0 k (trF tr)) ⟨l0, g0, tr0, by simp, rfl, hS, rfl, LopI.start⟩ ?_
    rintro k hk fr L H1 ⟨l, g, tr, ⟨f0, f1, f2, f3, f4, f5, f6, f15, f16⟩, rfl, hS1, hfl, hI⟩
    have hbd := flow_bd hv hok
    simp [f0, f1, f2, f3, f4, f5, f6, f15, f16]
    refine cond_dec (fun ht => ?_) fun hfl2 => ?_
    case refine_2 =>
      have : k = A.length := by omega
      subst this
      simp
      exact hK _ _ _ _ 0 hS1 (by rw [hfl]; exact hI.none hok (by omega))
    have ht : k < A.length := by omega
    have ldT : ∀ L, vload none L H1 (.ptr (N + 4) k) = some (.bool (trF tr k)) := fun L => bools_ld hS1.rT (by rw [hS1.tl]; omega)
    have hll1 := hS1.ll
    have htl1 := hS1.tl
    have hkl : k < l.length := by omega
    have hkt : k < tr.length := by omega
    have k6 : k < 6 := by omega
    cases htk : trF tr k with
    | true =>
      simp (disch := omega) [f0, f1, f2, f3, f4, f5, f6, f15, f16, ldT, htk, wrap_i64, -vload_ptrO]
      exact ⟨by omega, l, g, tr, hS1, hfl, hI.skip (Or.inl htk)⟩
    | false =>
    have ldB1 : ∀ L, vload none L H1 (.ptr (N + 2) 0) = some lv := fun L => by rw [vload_ptr hS1.rB]; rfl
    have ldW1 : ∀ L, vload none L H1 (.ptr N 0) = some bv := fun L => by rw [vload_ptr hS1.rW]; rfl
    have hB1 := hS1.wants hb0
    have hL1 := hS1.own.lst
    have al := hL1.at hkl
    have aw := hB1.at hw
    have shd := hS1.shd k ht
    have hN1 : nearB (l.getD k default).l (l.getD k default).t (l.getD k default).b (B.getD w0 default).l (B.getD w0 default).t (B.getD w0 default).b (B.getD w0 default).n = (netOf A B).N k w0 := by
      rw [shd.1, shd.2.1, shd.2.2]; rfl
    simp (disch := omega) [f0, f1, f2, f3, f4, f5, f6, f15, f16, ldT, htk, ldB1, ldW1, al, aw, lo_load hL1, wa_load hB1, lpId_ept, -vload_ptrO]
    refine dye_Near ?_
    rw [hN1]
    cases hnr : (netOf A B).N k w0 with
    | false =>
      simp (disch := omega) [f0, f1, f2, f3, f4, f5, f6, f15, f16, wrap_i64]
      exact ⟨by omega, l, g, tr, hS1, hfl, hI.skip (Or.inr hnr)⟩
    | true =>
    have hx0 : ∀ i, (flOf l g).left i = (flOf l0 g0).left i := fun i => by rw [hfl]
    have hg0 : ∀ v i, (flOf l g).g v i = (flOf l0 g0).g v i := fun v i => by rw [hfl]
    have hlw : 0 ≤ (l.getD k default).w ∧ (l.getD k default).w ≤ 1000 := by
      have := hbd.1 k ht
      rw [← hx0 k] at this
      exact this
    have stT := fun L => bools_st (L := L) (x := true) hS1.rT (by omega : lim' ≤ N + 4) hkt
    have hS2 := hS1.setT k true
    generalize H1.set (N + 4) (.row (bools (tr.set k true)) true) = H2 at *
    have ldB2 : ∀ L, vload none L H2 (.ptr (N + 2) 0) = some lv := fun L => by rw [vload_ptr hS2.rB]; rfl
    have hL2 := hS2.own.lst
    have fl := hL2.faddr (i := k) (j := 0) hkl
    have gl2 := fun L => lo_get hL2 (i := k) (j := 0) hkl (by omega) (L := L)
    obtain ⟨H3, st3, hS3⟩ := hS2.setL hlim ht ((l.getD k default).w - min m (l.getD k default).w)
    simp (disch := omega) [f0, f1, f2, f3, f4, f5, f6, f15, f16, stT, ldB2, al, fl, gl2, st3, wrap_i64, lpId_ept, lpId_eptf, -vload_ptrO, -vstore]
    refine wLoop_post 2 (fun fr L H' => ∃ l g tr n, (fr 0 = .int .i64 w0 ∧ fr 1 = .int .i64 m ∧ fr 2 = .ptr (N + 2) 0 ∧ fr 3 = .ptr (N + 4) 0 ∧ fr 4 = .ptr N 0 ∧ fr 5 = .ptr (N + 3) 0 ∧ fr 6 = .ptr (N + 5) 0 ∧ fr 15 = .int .i64 A.length ∧ fr 16 = .int .i64 k ∧ fr 10 = .int .i64 k ∧ fr 11 = .int .i64 n) ∧ L = [] ∧ ShS N H0 bv lv A l g tr H' ∧
      ((n = 0 ∧ flOf l g = flOf l0 g0 ∧ InnI (netOf A B) (flOf l0 g0) (trF tr0) w0 k B.length (trF tr) ∧ (flOf l0 g0).left k = 0) ∨ PendI (netOf A B) (flOf l0 g0) (trF tr0) w0 k m (flOf l g) (trF tr) n)) ?_ ?_
    · refine wLoop_m (n := B.length + 1) (fun M fr L H' => ∃ l g tr n o, (fr 0 = .int .i64 w0 ∧ fr 1 = .int .i64 m ∧ fr 2 = .ptr (N + 2) 0 ∧ fr 3 = .ptr (N + 4) 0 ∧ fr 4 = .ptr N 0 ∧ fr 5 = .ptr (N + 3) 0 ∧ fr 6 = .ptr (N + 5) 0 ∧ fr 15 = .int .i64 A.length ∧ fr 16 = .int .i64 k ∧ fr 10 = .int .i64 k ∧ fr 11 = .int .i64 n ∧ fr 12 = .int .i64 (o : Nat)) ∧ L = [] ∧ ShS N H0 bv lv A l g tr H' ∧
        ((n = 0 ∧ flOf l g = flOf l0 g0 ∧ InnI (netOf A B) (flOf l0 g0) (trF tr0) w0 k o (trF tr) ∧ (flOf l0 g0).left k = 0 ∧ o ≤ B.length) ∨ PendI (netOf A B) (flOf l0 g0) (trF tr0) w0 k m (flOf l g) (trF tr) n) ∧ B.length + 1 - o ≤ M) ⟨_, g, tr.set k true, min m (l.getD k default).w, 0, by simp [f0, f1, f2, f3, f4, f5, f6, f15, f16], rfl, hS3, ?_, by omega⟩ ?_
      · by_cases hn0 : min m (l.getD k default).w = 0
        · have hw0 : (l.getD k default).w = 0 := by omega
          refine Or.inl ⟨hn0, ?_, hI.enter (trF_set hkt), ?_, Nat.zero_le _⟩
          · rw [← hfl]
            refine fl_ext (p := netOf A B) hll1 (by simpa [netOf] using hll1) ⟨fun i hi => ?_, fun v i => rfl⟩
            rw [fl_setL hkl]
            split
            · rename_i e; subst e; show _ = (l.getD i default).w; omega
            · rfl
          · rw [← hx0 k]; exact hw0
        · refine Or.inr ⟨by omega, by omega, fun s2 q1 q2 => ?_⟩
          refine hI.free hok hw ht hnr htk (n := min m (l.getD k default).w) ⟨by omega, by omega, ?_⟩ (trF_set hkt) (fun i hi => ?_) (fun v i => ?_)
          · rw [← hx0 k]; show _ ≤ (l.getD k default).w; omega
          · rw [q1 i hi, fl_setL hkl, ← hx0 i]
            split
            · rename_i e; subst e; rfl
            · rfl
          · rw [q2, ← hg0 v i]
            show (flOf l g).g v i + _ = _
            split <;> omega
      clear f0 f1 f2 f3 f4 f5 f6 f15 f16
      rintro M fr L H4 ⟨l4, g4, tr4, n4, o, ⟨f0, f1, f2, f3, f4, f5, f6, f15, f16, f10, f11, f12⟩, rfl, hS4, hJ, hM⟩
      rcases hJ with ⟨rfl, hfl4, hI4, hlk, hoB⟩ | hP
      case inr =>
        have hn4 : (n4 = 0) = False := eq_false (by have := hP.1; omega)
        simp [f0, f1, f2, f3, f4, f5, f6, f15, f16, f10, f11, f12, hn4]
        exact ⟨l4, g4, tr4, hS4, hP⟩
      have hB4 := hS4.wants hb0
      have ldW4 : ∀ L, vload none L H4 (.ptr N 0) = some bv := fun L => by rw [vload_ptr hS4.rW]; rfl
      by_cases hob : o < B.length
      case neg =>
        have : o = B.length := by omega
        subst this
        simp [f0, f1, f2, f3, f4, f5, f6, f15, f16, f10, f11, f12, ldW4, hB4.len, -vload_ptrO]
        exact ⟨l4, g4, tr4, hS4, Or.inl ⟨hfl4, hI4, hlk⟩⟩
      have hgl4 := hS4.gl
      have o6 : o < 6 := by omega
      have ldG4 : ∀ L, vload none L H4 (.ptr (N + 3) (o * 6 + k)) = some (.int .i64 (g4.getD (o * 6 + k) 0)) := fun L => row_load hS4.rG (by omega)
      have hgo : (flOf l4 g4).g o k = g4.getD (o * 6 + k) 0 := by
        show (if o < 6 ∧ k < 6 then g4.getD (o * 6 + k) 0 else 0) = _
        rw [if_pos ⟨o6, k6⟩]
      have hgb : 0 ≤ g4.getD (o * 6 + k) 0 ∧ g4.getD (o * 6 + k) 0 ≤ 1000 := by
        have := hbd.2 o k
        rw [← hfl4, hgo] at this
        exact this
      simp (disch := omega) [f0, f1, f2, f3, f4, f5, f6, f15, f16, f10, f11, f12, ldW4, hB4.len, hob, ldG4, wrap_i64, -vload_ptrO]
      refine cond_dec (fun hbk => ?_) fun hbk => ?_
      · have ldF4 : ∀ L, vload none L H4 (.ptr (N + 5) 0) = some (getW N) := fun L => by rw [vload_ptr hS4.rF]; rfl
        have stW : stor (getW N) = true := Eq.trans rfl rfl
        have trk0 : trF tr0 k = false := by
          cases e : trF tr0 k with
          | false => rfl
          | true => rw [hI.mono k e] at htk; cases htk
        have htl0 := hS.tl
        have hu4 : untN tr4 A.length < u := by
          have h1 := unt_set (tr := tr0) (k := k) (by omega) trk0 (n := A.length)
          rw [if_pos ht] at h1
          have h2 : untN tr4 A.length ≤ untN (tr0.set k true) A.length := unt_mono fun i hi => by
            rcases (trF_set (tr := tr0) (k := k) (by omega) i).1 hi with e | e
            · rw [e]; exact hI4.here
            · exact hI4.mono i e
          omega
        simp (disch := omega) [f0, f1, f2, f3, f4, f5, f6, f15, f16, f10, f11, f12, ldF4, stW, -vload_ptrO]
        refine ih (untN tr4 A.length) hu4 rfl (Nat.le_refl _) hS4 hob ⟨by omega, by omega⟩ (by rw [hfl4]; exact hok) fun H5 l5 g5 tr5 n5 hS5 hR => ?_
        rw [hfl4] at hR
        have hgl5 := hS5.gl
        have ldG5 : ∀ L, vload none L H5 (.ptr (N + 3) (o * 6 + k)) = some (.int .i64 (g5.getD (o * 6 + k) 0)) := fun L => row_load hS5.rG (by omega)
        have hgo5 : (flOf l5 g5).g o k = g5.getD (o * 6 + k) 0 := by
          show (if o < 6 ∧ k < 6 then g5.getD (o * 6 + k) 0 else 0) = _
          rw [if_pos ⟨o6, k6⟩]
        have hgb5 := (flow_bd hv hR.ok).2 o k
        rw [hgo5] at hgb5
        have hrn := hR.rng
        have stG5 := fun L => row_store (L := L) (x := g5.getD (o * 6 + k) 0 - n5) hS5.rG (by omega : lim' ≤ N + 3) (by omega : o * 6 + k < g5.length)
        have hS6 := hS5.setG (o * 6 + k) (g5.getD (o * 6 + k) 0 - n5)
        have hg6 := fl_setG (l := l5) (x := g5.getD (o * 6 + k) 0 - n5) hgl5 o6 k6
        simp (disch := omega) [f0, f1, f2, f3, f4, f5, f6, f15, f16, f10, f11, f12, ldG5, stG5, wrap_i64, -vload_ptrO, -vstore]
        refine ⟨M - 1, by omega, l5, g5.set (o * 6 + k) (g5.getD (o * 6 + k) 0 - n5), tr5, n5, o + 1, ⟨rfl, by omega⟩, hS6, ?_, by omega⟩
        by_cases h50 : n5 = 0
        · subst h50
          refine Or.inl ⟨rfl, ?_, hI4.step hR, hlk, by omega⟩
          have e1 : flOf l5 g5 = flOf l0 g0 := by
            have := fl_ext (p := netOf A B) (l := l4) (g := g4) (l' := l5) (g' := g5) hS4.ll hS5.ll (by rw [hfl4]; exact hR.same rfl)
            rw [this, hfl4]
          rw [← e1]
          refine fl_ext (p := netOf A B) hS5.ll hS5.ll ⟨fun i hi => rfl, fun v i => ?_⟩
          rw [hg6 v i]
          split
          · rename_i e; rw [e.1, e.2, hgo5]; omega
          · rfl
        · refine Or.inr ⟨by omega, by omega, fun s2 q1 q2 => ?_⟩
          refine hI4.push hok hw hob ht hnr trk0 (b := min m (g4.getD (o * 6 + k) 0)) ⟨by omega, ?_⟩ hR (by omega) (fun i hi => by rw [q1 i hi]; rfl) fun v i => ?_
          · rw [← hfl4, hgo]; omega
          · rw [q2, hg6 v i]
            by_cases e1 : v = o ∧ i = k
            · rw [if_pos e1, if_pos e1, e1.1, e1.2, hgo5]; omega
            · rw [if_neg e1, if_neg e1]; omega
      · simp (disch := omega) [f0, f1, f2, f3, f4, f5, f6, f15, f16, f10, f11, f12, wrap_i64]
        exact ⟨M - 1, by omega, l4, g4, tr4, 0, o + 1, ⟨rfl, by omega⟩, hS4, Or.inl ⟨rfl, hfl4, hI4.skip (by rw [← hfl4, hgo]; omega), hlk, by omega⟩, by omega⟩
    clear f0 f1 f2 f3 f4 f5 f6 f15 f16
    rintro fr L H4 ⟨l4, g4, tr4, n4, ⟨f0, f1, f2, f3, f4, f5, f6, f15, f16, f10, f11⟩, rfl, hS4, hJ⟩
    rcases hJ with ⟨rfl, hfl4, hI4, hlk⟩ | hP
    · simp (disch := omega) [f0, f1, f2, f3, f4, f5, f6, f15, f16, f10, f11, wrap_i64]
      exact ⟨by omega, l4, g4, tr4, hS4, hfl4, hI4.leave hlk fun _ => trivial⟩
    · obtain ⟨hn1, hn2, hP⟩ := hP
      have hw6 : w0 < 6 := by omega
      have hgl4 := hS4.gl
      have hR := hP (flOf l4 (g4.set (w0 * 6 + k) (g4.getD (w0 * 6 + k) 0 + n4))) (fun i hi => rfl) (fun v i => by
        rw [fl_setG hgl4 hw6 k6 v i]
        by_cases e : v = w0 ∧ i = k
        · rw [if_pos e, if_pos e, e.1, e.2]
          show _ = (if w0 < 6 ∧ k < 6 then g4.getD (w0 * 6 + k) 0 else 0) + n4
          rw [if_pos ⟨hw6, k6⟩]
        · rw [if_neg e, if_neg e]; omega)
      have hgb := (flow_bd hv hR.ok).2 w0 k
      rw [fl_setG hgl4 hw6 k6, if_pos ⟨rfl, rfl⟩] at hgb
      have ldG4 : ∀ L, vload none L H4 (.ptr (N + 3) (w0 * 6 + k)) = some (.int .i64 (g4.getD (w0 * 6 + k) 0)) := fun L => row_load hS4.rG (by omega)
      have stG4 := fun L => row_store (L := L) (x := g4.getD (w0 * 6 + k) 0 + n4) hS4.rG (by omega : lim' ≤ N + 3) (by omega : w0 * 6 + k < g4.length)
      have hgt : (0 < n4) = True := eq_true hn1
      simp (disch := omega) [f0, f1, f2, f3, f4, f5, f6, f15, f16, f10, f11, ldG4, stG4, hgt, wrap_i64, -vload_ptrO, -vstore]
      exact hK _ _ _ _ _ (hS4.setG _ _) hR
end
end Go.Proofs.Ytlljkhhdhedajaa.Vm
