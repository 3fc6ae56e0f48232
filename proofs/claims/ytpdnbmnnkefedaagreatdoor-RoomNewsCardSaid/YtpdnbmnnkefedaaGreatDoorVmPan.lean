/- Calls that panic: what the machine's prefix and a panic, of a callee or of one's own, make of the model's call. -/
import Derived.Test.YtpdnbmnnkefedaaGreatDoorVmWp
namespace Go.Proofs.YtpdnbmnnkefedaaGreatDoor.Vm
open Go
set_option linter.unusedVariables false
set_option linter.unusedSimpArgs false

/-- what a piece of code leaves that holds no loop over a function -/
def Post0 (lim : Nat) (e : VExit) (s s' : St) (ρ : Loc) (lam : Lam) (a : Act) (w : World) : Exit → Act → World → Prop := fun e' a' w' =>
  e' = toExit e ∧ a'.defers = a.defers ∧ a'.tmps.size = a.tmps.size ∧ ∃ ρ' lam', Stands ρ' lam' s' a' w' ∧ Grow lim (fun _ => True) ρ lam s.L s.H w ρ' lam' s'.L s'.H w'

section
variable {P : Program} {call : CallFn} {lim : Nat} {glob : List Nat} {nt : Nat} {r : Option Nat}

theorem Post0.trans {e : VExit} {s s1 s2 : St} {ρ ρ1 : Loc} {lam lam1 : Lam} {a a1 : Act} {w w1 : World} (hd : a1.defers = a.defers) (hz : a1.tmps.size = a.tmps.size) (g : Grow lim (fun _ => True) ρ lam s.L s.H w ρ1 lam1 s1.L s1.H w1)
    (hst : Stands ρ1 lam1 s1 a1 w1) {e' : Exit} {a' : Act} {w' : World} (h : Post0 lim e s1 s2 ρ1 lam1 a1 w1 e' a' w') : Post0 lim e s s2 ρ lam a w e' a' w' := by
  obtain ⟨h1, h2, h3, ρ', lam', h4, h5⟩ := h
  exact ⟨h1, h2.trans hd, h3.trans hz, ρ', lam', h4, Grow.trans g h5 hst.L.dom⟩

/-- ONE PIECE OF CODE -/
theorem code_sim0 (hm : P.follows .mixedOrders = true) (hcall : CallOk P call) (hc : CallExt call) :
    ∀ (n : Nat) (c : Code) (vc : VCode) (s s2 : St) (e : VExit) (ρ : Loc) (lam : Lam) (a : Act) (w : World), slimCode P glob nt c = some vc → evCode call lim n vc s = some (e, s2) → nt = a.tmps.size → Stands ρ lam s a w →
      FreeR ρ s.H.length s2.H.length → FreeL lam s.L.length s2.L.length → rsOf c = [] → c.wpIn (rF r) 0 P (Post0 lim e s s2 ρ lam a w) a w
  | 0, c, vc, s, s2, e, ρ, lam, a, w, hs, he, hnt, hst, hfR, hfL, hR => by simp [evCode] at he
  | n + 1, c, vc, s, s2, e, ρ, lam, a, w, hs, he, hnt, hst, hfR, hfL, hR => by
    have stay : ∀ ex, e = ex → s2 = s → Post0 lim e s s2 ρ lam a w (toExit ex) a w := by
      rintro ex rfl rfl
      exact ⟨rfl, rfl, rfl, ρ, lam, hst, Grow.refl⟩
    cases c with
    | skip =>
      simp [slimCode] at hs; subst hs
      simp [evCode] at he
      exact wpIn_skip (stay .normal he.1.symm he.2.symm)
    | label l =>
      simp [slimCode] at hs; subst hs
      simp [evCode] at he
      exact wpIn_label (stay .normal he.1.symm he.2.symm)
    | exit id =>
      simp [slimCode] at hs; subst hs
      simp [evCode] at he
      exact wpIn_exit (stay (.exit id) he.1.symm he.2.symm)
    | ret =>
      simp [slimCode] at hs; subst hs
      simp [evCode] at he
      exact wpIn_ret (stay .ret he.1.symm he.2.symm)
    | region id ops draw =>
      simp only [slimCode] at hs
      split at hs
      case h_2 => cases hs; simp [evCode] at he
      rename_i vops hops
      split at hs
      · rename_i hdraw
        subst hdraw
        split at hs
        case isFalse => cases hs; simp [evCode] at he
        rename_i hlex
        by_cases hinc : incOk ops vops = true
        · rw [if_pos hinc] at hs
          cases hs
          simp only [evCode] at he
          split at he
          case h_2 => cases he
          rename_i s1 h1
          cases he
          exact inc_sim (glob := glob) hm hcall hc hops hlex hinc h1 (Nat.le_of_eq hnt) hst hfR hfL fun a' ρ' lam' w' e1 e2 e3 g => ⟨rfl, e1, e2, ρ', lam', e3, g⟩
        rw [if_neg hinc] at hs
        split at hs
        · cases hs
          simp only [evCode] at he
          split at he
          case h_2 => cases he
          rename_i s1 h1
          split at he
          case h_2 => cases he
          rename_i s3 h2
          cases he
          exact draw_sim (glob := glob) hm hcall hc hops hlex h1 h2 (Nat.le_of_eq hnt) hst hfR hfL fun a' ρ' lam' w' e1 e2 e3 g => ⟨rfl, e1, e2, ρ', lam', e3, g⟩
        · cases hs
          simp only [evCode] at he
          split at he
          case h_2 => cases he
          rename_i s1 h1
          split at he
          case h_2 => cases he
          rename_i s3 h2
          cases he
          exact draw_sim (glob := glob) hm hcall hc hops hlex (evHeadS_of rfl h1) h2 (Nat.le_of_eq hnt) hst hfR hfL fun a' ρ' lam' w' e1 e2 e3 g => ⟨rfl, e1, e2, ρ', lam', e3, g⟩
      · rename_i hdraw
        have : draw = false := by simpa using hdraw
        subst this
        cases hs
        simp only [evCode] at he
        split at he
        case h_2 => cases he
        rename_i s1 h1
        cases he
        obtain ⟨hlen, hget⟩ := slimOpers_get hops
        have hlv : vops.length = ops.size := by simpa using hlen
        refine wpIn_region ?_
        rw [List.range_eq_range', ← hlv]
        refine seq_sim (glob := glob) (nt := nt) (lim := lim) hcall hc vops 0 s s2 ρ lam a w (fun i vo hi => ?_) h1 (Nat.le_of_eq hnt) hst hfR hfL fun a' ρ' lam' w' e1 e2 e3 g => ⟨rfl, e1, e2, ρ', lam', e3, g⟩
        have hlt := (List.getElem?_eq_some_iff.1 hi).1
        rw [hlv] at hlt
        obtain ⟨vo', q1, q2⟩ := hget i ops[i] (by simp [hlt])
        rw [hi] at q1; cases q1
        obtain ⟨a1, a2, a3, a4⟩ := slimOper_spec q2
        exact ⟨ops[i], by rw [Nat.zero_add]; exact Array.getElem?_eq_getElem hlt, a1, a2, a3, a4⟩
    | seq x y =>
      simp only [slimCode] at hs
      split at hs
      case h_2 => cases hs
      rename_i vx vy hx hy
      cases hs
      simp only [evCode] at he
      refine wpIn_seq ?_
      split at he
      · rename_i s1 h1
        obtain ⟨x1, x2⟩ := evCode_ext hc he
        have := code_sim0 hm hcall hc n x vx s s1 .normal ρ lam a w hx h1 hnt hst (fun b g1 g2 => hfR b g1 (by have := x1.1; omega)) (fun b g1 g2 => hfL b g1 (by omega)) (by simp [rsOf] at hR; first | exact hR.1 | exact hR.2 | exact hR)
        refine wpIn_mono this ?_
        rintro e' a' w' ⟨rfl, hd, hz, ρ', lam', hst', g⟩
        refine wpIn_mono (code_sim0 hm hcall hc n y vy s1 s2 e ρ' lam' a' w' hy he (by omega) hst' (g.freeR (Nat.le_refl _) fun b g1 g2 => hfR b (by have := g.lenH; omega) g2) (g.freeL (Nat.le_refl _) fun b g1 g2 => hfL b (by have := g.lenL; omega) g2) (by simp [rsOf] at hR; first | exact hR.1 | exact hR.2 | exact hR)) ?_
        intro e2 a2 w2 h2
        exact Post0.trans hd hz g hst' h2
      · rename_i hne
        have := code_sim0 hm hcall hc n x vx s s2 e ρ lam a w hx he hnt hst hfR hfL (by simp [rsOf] at hR; first | exact hR.1 | exact hR.2 | exact hR)
        refine wpIn_mono this ?_
        rintro e' a' w' ⟨rfl, rest⟩
        cases e with
        | normal => exact absurd he (hne s2)
        | exit id => exact ⟨rfl, rest⟩
        | ret => exact ⟨rfl, rest⟩
    | cond c x y =>
      simp only [slimCode] at hs
      split at hs
      case h_2 => cases hs; simp [evCode] at he
      rename_i vc vx vy hvc hx hy
      cases hs
      simp only [evCode] at he
      have hev := opd_rel hvc hst.fr
      split at he
      · rename_i hb
        rw [hb] at hev
        exact wpIn_cond_true hev.bool (code_sim0 hm hcall hc n x vx s s2 e ρ lam a w hx he hnt hst hfR hfL (by simp [rsOf] at hR; first | exact hR.1 | exact hR.2 | exact hR))
      · rename_i hb
        rw [hb] at hev
        exact wpIn_cond_false hev.bool (code_sim0 hm hcall hc n y vy s s2 e ρ lam a w hy he hnt hst hfR hfL (by simp [rsOf] at hR; first | exact hR.1 | exact hR.2 | exact hR))
      · cases he
    | block id body =>
      simp only [slimCode, Option.map_eq_some_iff] at hs
      obtain ⟨vb, hb, rfl⟩ := hs
      simp only [evCode] at he
      refine wpIn_block ?_
      split at he
      · rename_i id' s1 h1
        split at he
        · rename_i hid
          cases he
          refine wpIn_mono (code_sim0 hm hcall hc n body vb s s2 (.exit id') ρ lam a w hb h1 hnt hst hfR hfL hR) ?_
          rintro e' a' w' ⟨rfl, rest⟩
          simp only [toExit, Exit.inBlock, hid, if_true]
          exact ⟨rfl, rest⟩
        · rename_i hid
          cases he
          refine wpIn_mono (code_sim0 hm hcall hc n body vb s s2 (.exit id') ρ lam a w hb h1 hnt hst hfR hfL hR) ?_
          rintro e' a' w' ⟨rfl, rest⟩
          simp only [toExit, Exit.inBlock, hid, if_false]
          exact ⟨rfl, rest⟩
      · rename_i hne
        refine wpIn_mono (code_sim0 hm hcall hc n body vb s s2 e ρ lam a w hb he hnt hst hfR hfL hR) ?_
        rintro e' a' w' ⟨rfl, rest⟩
        cases e with
        | normal => exact ⟨rfl, rest⟩
        | exit id' => exact absurd he (hne id' s2)
        | ret => exact ⟨rfl, rest⟩
    | loop body =>
      have hs0 := hs
      simp only [slimCode, Option.map_eq_some_iff] at hs
      obtain ⟨vb, hb, rfl⟩ := hs
      have key : ∀ (m : Nat) (s : St) (ρ : Loc) (lam : Lam) (a : Act) (w : World), m ≤ n + 1 → evCode call lim m (.loop vb) s = some (e, s2) → nt = a.tmps.size → Stands ρ lam s a w → FreeR ρ s.H.length s2.H.length → FreeL lam s.L.length s2.L.length →
          Code.roundsIn (rF r) 0 P body (Post0 lim e s s2 ρ lam a w) m a w := by
        intro m
        induction m with
        | zero => intro s ρ lam a w _ he; simp [evCode] at he
        | succ m ih =>
          intro s ρ lam a w hmn he hnt hst hfR hfL
          simp only [evCode] at he
          rw [roundsIn_succ]
          split at he
          · rename_i s1 h1
            obtain ⟨x1, x2⟩ := evCode_ext hc he
            have h1' := code_sim0 hm hcall hc m body vb s s1 .normal ρ lam a w hb h1 hnt hst (fun b g1 g2 => hfR b g1 (by have := x1.1; omega)) (fun b g1 g2 => hfL b g1 (by omega)) hR
            refine wpIn_mono h1' ?_
            rintro e' a' w' ⟨rfl, hd, hz, ρ', lam', hst', g⟩
            have := ih s1 ρ' lam' a' w' (by omega) he (by omega) hst' (g.freeR (Nat.le_refl _) fun b g1 g2 => hfR b (by have := g.lenH; omega) g2) (g.freeL (Nat.le_refl _) fun b g1 g2 => hfL b (by have := g.lenL; omega) g2)
            have mono : ∀ (k : Nat) (a : Act) (w : World) (Q Q' : Exit → Act → World → Prop), (∀ e a w, Q e a w → Q' e a w) → Code.roundsIn (rF r) 0 P body Q k a w → Code.roundsIn (rF r) 0 P body Q' k a w := by
              intro k
              induction k with
              | zero => intro a w Q Q' _ h; exact h
              | succ k ihk =>
                intro a w Q Q' hq h
                rw [roundsIn_succ] at h ⊢
                refine wpIn_mono h fun e a w he => ?_
                cases e <;> simp only [Exit.then] at he ⊢ <;> first | exact ihk a w Q Q' hq he | exact hq _ _ _ he
            exact mono m a' w' _ _ (fun e2 a2 w2 h2 => Post0.trans hd hz g hst' h2) this
          · rename_i hne
            refine wpIn_mono (code_sim0 hm hcall hc m body vb s s2 e ρ lam a w hb he hnt hst hfR hfL hR) ?_
            rintro e' a' w' ⟨rfl, rest⟩
            cases e with
            | normal => exact absurd he (hne s2)
            | exit id => exact ⟨rfl, rest⟩
            | ret => exact ⟨rfl, rest⟩
      exact wpIn_loop_rounds (n + 1) (key (n + 1) s ρ lam a w (Nat.le_refl _) he hnt hst hfR hfL)
    | scope body =>
      simp only [slimCode, Option.map_eq_some_iff] at hs
      obtain ⟨vb, hb, rfl⟩ := hs
      simp only [evCode] at he
      refine wpIn_scope_straight (wpIn_mono (code_sim0 hm hcall hc n body vb s s2 e ρ lam a w hb he hnt hst hfR hfL hR) ?_)
      rintro e' a' w' ⟨rfl, rest⟩
      cases e <;> exact ⟨rfl, rest⟩
    | rangeFunc g ps asg bd => simp [rsOf] at hR
    | _ => simp [slimCode] at hs; subst hs; simp [evCode] at he
  termination_by n => n

end

/-! panics -/
/-- what is as before when a call has panicked -/
structure PLow (lim : Nat) (ρ : Loc) (lam : Lam) (H : Hp) (w w' : World) : Prop where
  os : w'.os = w.os
  tape : w'.tape = w.tape
  output : w'.output = w.output
  size : w.heap.size ≤ w'.heap.size
  keep : ∀ r, r < w.heap.size → ¬ Open lim ρ H r → (∀ i, lam i ≠ some r) → w'.heap[r]? = w.heap[r]?
theorem PLow.refl {lim : Nat} {ρ : Loc} {lam : Lam} {H : Hp} {w : World} : PLow lim ρ lam H w w := ⟨rfl, rfl, rfl, Nat.le_refl _, fun _ _ _ _ => rfl⟩
theorem PLow.after {lim : Nat} {ρ ρ1 : Loc} {lam lam1 : Lam} {L L1 : Lo} {H H1 : Hp} {w w1 w2 : World} (g : Grow lim (fun _ => True) ρ lam L H w ρ1 lam1 L1 H1 w1) (h : PLow lim ρ1 lam1 H1 w1 w2) : PLow lim ρ lam H w w2 := by
  refine ⟨h.os.trans g.os, h.tape.trans g.tape, h.output.trans g.output, Nat.le_trans g.size h.size, fun r hr ho hl => ?_⟩
  rw [h.keep r (Nat.lt_of_lt_of_le hr g.size) (fun h2 => ho (Open.back g hr h2)) (fun i hi => ?_), g.keep r hr ho fun i _ => hl i]
  by_cases h3 : i < L.length ∨ L1.length ≤ i
  · rw [g.extL i h3] at hi; exact hl i hi
  · have := g.newL i r (by omega) (by omega) hi; omega
def FreeA (ρ : Loc) (n : Nat) : Prop := ∀ b, n ≤ b → ρ b = none
def FreeAL (lam : Lam) (n : Nat) : Prop := ∀ i, n ≤ i → lam i = none
/-- the call panics -/
def PanAt (P : Program) (lim : Nat) (f : FuncId) (args : List V) (H : Hp) : Prop :=
  bodied P f = true ∧ f ≠ yB ∧ ∀ (ρ : Loc) (w : World) (xs : Array Value), RelH ρ H w → GRel ρ → VRs ρ args xs.toList → FreeA ρ H.length →
    Calls P f xs w fun e w' => (∃ v : TypeId × Value, e = .panicked [{ v := .iface v.1 v.2, recovered := false }]) ∧ PLow lim ρ (fun _ => none) H w w'
def PanPost (lim : Nat) (ρ : Loc) (lam : Lam) (H : Hp) (a : Act) (w : World) : Exit → Act → World → Prop := fun e' a' w' =>
  (∃ v : TypeId × Value, e' = .panic [{ v := .iface v.1 v.2, recovered := false }]) ∧ a'.defers = a.defers ∧ PLow lim ρ lam H w w'
theorem PanPost.after {lim : Nat} {ρ ρ1 : Loc} {lam lam1 : Lam} {L L1 : Lo} {H H1 : Hp} {a a1 : Act} {w w1 : World} (hd : a1.defers = a.defers) (g : Grow lim (fun _ => True) ρ lam L H w ρ1 lam1 L1 H1 w1) {e : Exit} {a2 : Act} {w2 : World} (h : PanPost lim ρ1 lam1 H1 a1 w1 e a2 w2) : PanPost lim ρ lam H a w e a2 w2 :=
  ⟨h.1, h.2.1.trans hd, h.2.2.after g⟩
/-- the code panics -/
def PanC (P : Program) (lim : Nat) (glob : List Nat) (nt : Nat) (vc : VCode) (s : St) : Prop :=
  ∀ (c : Code) (ρ : Loc) (lam : Lam) (a : Act) (w : World), slimCode P glob nt c = some vc → rsOf c = [] → nt = a.tmps.size → Stands ρ lam s a w → FreeA ρ s.H.length → FreeAL lam s.L.length →
    c.wpIn (rF none) 0 P (PanPost lim ρ lam s.H a w) a w

section
variable {P : Program} {T : Tbl} {lim : Nat} {glob : List Nat} {nt : Nat}
theorem Grow.freeA {ρ ρ' : Loc} {lam lam' : Lam} {L L' : Lo} {H H' : Hp} {w w' : World} (g : Grow lim (fun _ => True) ρ lam L H w ρ' lam' L' H' w') (h : FreeA ρ H.length) : FreeA ρ' H'.length := fun b hb => by
  rw [g.extR b (Or.inr hb)]; exact h b (Nat.le_trans g.lenH hb)
theorem Grow.freeAL {ρ ρ' : Loc} {lam lam' : Lam} {L L' : Lo} {H H' : Hp} {w w' : World} (g : Grow lim (fun _ => True) ρ lam L H w ρ' lam' L' H' w') (h : FreeAL lam L.length) : FreeAL lam' L'.length := fun b hb => by
  rw [g.extL b (Or.inr hb)]; exact h b (Nat.le_trans g.lenL hb)
theorem FreeA.r {ρ : Loc} {n m : Nat} (h : FreeA ρ n) : FreeR ρ n m := fun b h1 _ => h b h1
theorem FreeAL.l {lam : Lam} {n m : Nat} (h : FreeAL lam n) : FreeL lam n m := fun b h1 _ => h b h1
theorem slim_seq {c : Code} {vx vy : VCode} (h : slimCode P glob nt c = some (.seq vx vy)) : ∃ x y, c = .seq x y ∧ slimCode P glob nt x = some vx ∧ slimCode P glob nt y = some vy := by
  cases c <;> simp only [slimCode] at h
  case seq x y =>
    split at h
    · rename_i a b h1 h2; cases h; exact ⟨x, y, rfl, h1, h2⟩
    · cases h
  case region => split at h <;> (repeat' split at h) <;> cases h
  case cond => split at h <;> cases h
  case rangeFunc => split at h <;> cases h
  all_goals (first | (cases h; done) | (simp only [Option.map_eq_some_iff] at h; obtain ⟨_, _, h⟩ := h; cases h))
theorem slim_cond {c : Code} {k : Opd} {vx vy : VCode} (h : slimCode P glob nt c = some (.cond k vx vy)) : ∃ k' x y, c = .cond k' x y ∧ slimOpd k' = some k ∧ slimCode P glob nt x = some vx ∧ slimCode P glob nt y = some vy := by
  cases c <;> simp only [slimCode] at h
  case cond k' x y =>
    split at h
    · rename_i a b d h1 h2 h3; cases h; exact ⟨k', x, y, rfl, h1, h2, h3⟩
    · cases h
  case region => split at h <;> (repeat' split at h) <;> cases h
  case seq => split at h <;> cases h
  case rangeFunc => split at h <;> cases h
  all_goals (first | (cases h; done) | (simp only [Option.map_eq_some_iff] at h; obtain ⟨_, _, h⟩ := h; cases h))
theorem slim_block {c : Code} {id : Nat} {vx : VCode} (h : slimCode P glob nt c = some (.block id vx)) : ∃ x, c = .block id x ∧ slimCode P glob nt x = some vx := by
  cases c <;> simp only [slimCode] at h
  case block i x =>
    simp only [Option.map_eq_some_iff] at h
    obtain ⟨b, h1, h2⟩ := h; cases h2; exact ⟨x, rfl, h1⟩
  case region => split at h <;> (repeat' split at h) <;> cases h
  case seq => split at h <;> cases h
  case cond => split at h <;> cases h
  case rangeFunc => split at h <;> cases h
  all_goals (first | (cases h; done) | (simp only [Option.map_eq_some_iff] at h; obtain ⟨_, _, h⟩ := h; cases h))
theorem slim_loop {c : Code} {vx : VCode} (h : slimCode P glob nt c = some (.loop vx)) : ∃ x, c = .loop x ∧ slimCode P glob nt x = some vx := by
  cases c <;> simp only [slimCode] at h
  case loop x =>
    simp only [Option.map_eq_some_iff] at h
    obtain ⟨b, h1, h2⟩ := h; cases h2; exact ⟨x, rfl, h1⟩
  case region => split at h <;> (repeat' split at h) <;> cases h
  case seq => split at h <;> cases h
  case cond => split at h <;> cases h
  case rangeFunc => split at h <;> cases h
  all_goals (first | (cases h; done) | (simp only [Option.map_eq_some_iff] at h; obtain ⟨_, _, h⟩ := h; cases h))
theorem pan_seq1 {vx vy : VCode} {s : St} (h : PanC P lim glob nt vx s) : PanC P lim glob nt (.seq vx vy) s := by
  intro c ρ lam a w hs hr hnt hst hf hfl
  obtain ⟨x, y, rfl, h1, h2⟩ := slim_seq hs
  refine wpIn_seq (wpIn_mono (h x ρ lam a w h1 (by simp [rsOf] at hr; exact hr.1) hnt hst hf hfl) ?_)
  rintro e a' w' ⟨⟨v, rfl⟩, rest⟩
  exact ⟨⟨v, rfl⟩, rest⟩
theorem pan_seq2 (hm : P.follows .mixedOrders = true) (hT : TblOk P T) {vx vy : VCode} {s : St} (h : wSem T lim vx (fun e s' => e = .normal ∧ PanC P lim glob nt vy s') s) : PanC P lim glob nt (.seq vx vy) s := by
  intro c ρ lam a w hs hr hnt hst hf hfl
  obtain ⟨x, y, rfl, h1, h2⟩ := slim_seq hs
  obtain ⟨n, e, s', he, rfl, hp⟩ := h
  simp [rsOf] at hr
  refine wpIn_seq (wpIn_mono (code_sim0 (r := none) hm (evFn_ok hm hT n) (evFn_ext T n) n x vx s s' .normal ρ lam a w h1 he hnt hst hf.r hfl.l hr.1) ?_)
  rintro e' a' w' ⟨rfl, hd, hz, ρ', lam', hst', g⟩
  exact wpIn_mono (hp y ρ' lam' a' w' h2 hr.2 (hnt.trans hz.symm) hst' (g.freeA hf) (g.freeAL hfl)) fun e2 a2 w2 h3 => h3.after hd g
theorem pan_cond {k : Opd} {vx vy : VCode} {s : St} {t : Bool} (hk : opd s.fr k = .bool t) (h : PanC P lim glob nt (if t then vx else vy) s) : PanC P lim glob nt (.cond k vx vy) s := by
  intro c ρ lam a w hs hr hnt hst hf hfl
  obtain ⟨k', x, y, rfl, h0, h1, h2⟩ := slim_cond hs
  have hev := opd_rel h0 hst.fr
  rw [hk] at hev
  simp [rsOf] at hr
  refine wpIn_cond hev.bool ?_
  cases t
  · exact h y ρ lam a w h2 hr.2 hnt hst hf hfl
  · exact h x ρ lam a w h1 hr.1 hnt hst hf hfl
theorem pan_block {id : Nat} {vx : VCode} {s : St} (h : PanC P lim glob nt vx s) : PanC P lim glob nt (.block id vx) s := by
  intro c ρ lam a w hs hr hnt hst hf hfl
  obtain ⟨x, rfl, h1⟩ := slim_block hs
  refine wpIn_block (wpIn_mono (h x ρ lam a w h1 hr hnt hst hf hfl) ?_)
  rintro e a' w' ⟨⟨v, rfl⟩, rest⟩
  exact ⟨⟨v, rfl⟩, rest⟩
/-- so many rounds, and then a panic -/
def PanL (P : Program) (T : Tbl) (lim : Nat) (glob : List Nat) (nt : Nat) (vx : VCode) : Nat → St → Prop
  | 0, s => PanC P lim glob nt vx s
  | n + 1, s => wSem T lim vx (fun e s' => e = .normal ∧ PanL P T lim glob nt vx n s') s
theorem pan_loop (hm : P.follows .mixedOrders = true) (hT : TblOk P T) {vx : VCode} {n : Nat} {s : St} (h : PanL P T lim glob nt vx n s) : PanC P lim glob nt (.loop vx) s := by
  intro c ρ lam a w hs hr hnt hst hf hfl
  obtain ⟨x, rfl, h1⟩ := slim_loop hs
  refine wpIn_loop_rounds (n + 1) ?_
  clear hs
  have hr : rsOf x = [] := hr
  induction n generalizing s ρ lam a w with
  | zero =>
    rw [roundsIn_succ]
    refine wpIn_mono (h x ρ lam a w h1 hr hnt hst hf hfl) ?_
    rintro e a' w' ⟨⟨v, rfl⟩, rest⟩
    exact ⟨⟨v, rfl⟩, rest⟩
  | succ n ih =>
    · obtain ⟨k, e, s', he, rfl, hp⟩ := h
      rw [roundsIn_succ]
      refine wpIn_mono (code_sim0 (r := none) hm (evFn_ok hm hT k) (evFn_ext T k) k x vx s s' .normal ρ lam a w h1 he hnt hst hf.r hfl.l hr) ?_
      rintro e' a' w' ⟨rfl, hd, hz, ρ', lam', hst', g⟩
      have := ih hp ρ' lam' a' w' (hnt.trans hz.symm) hst' (g.freeA hf) (g.freeAL hfl)
      have mono : ∀ (k : Nat) (a : Act) (w : World) (Q Q' : Exit → Act → World → Prop), (∀ e a w, Q e a w → Q' e a w) → Code.roundsIn (rF none) 0 P x Q k a w → Code.roundsIn (rF none) 0 P x Q' k a w := by
        intro k
        induction k with
        | zero => intro a w Q Q' _ h; exact h
        | succ k ihk =>
          intro a w Q Q' hq h
          rw [roundsIn_succ] at h ⊢
          refine wpIn_mono h fun e a w he => ?_
          cases e <;> simp only [Exit.then] at he ⊢ <;> first | exact ihk a w Q Q' hq he | exact hq _ _ _ he
      exact mono (n + 1) a' w' _ _ (fun e2 a2 w2 h2 => h2.after hd g) this
/-- operations, and behind them one that ends the code -/
theorem seq_simP {call : CallFn} (hcall : CallOk P call) (hc : CallExt call) {ops : Array Oper} {Q : Exit → Act → World → Prop} (rest : List Nat) :
    ∀ (vl : List VOper) (k : Nat) (s s' : St) (ρ : Loc) (lam : Lam) (a : Act) (w : World), (∀ i vo, vl[i]? = some vo → ∃ o, ops[k + i]? = some o ∧ slimOp P glob o = some vo.op ∧ vo.dst = o.dst ∧ (∀ d, o.dst = some d → d < nt) ∧
        (match o.guard with | none => vo.guard = none | some (j, want) => ∃ s, (ops[j]?).bind (·.dst) = some s ∧ vo.guard = some (s, want))) →
      evOps call lim vl s = some s' → nt ≤ a.tmps.size → Stands ρ lam s a w → FreeR ρ s.H.length s'.H.length → FreeL lam s.L.length s'.L.length →
      (∀ a' ρ' lam' w', a'.defers = a.defers → a'.tmps.size = a.tmps.size → Stands ρ' lam' s' a' w' → Grow lim (fun _ => True) ρ lam s.L s.H w ρ' lam' s'.L s'.H w' → wpOpsIn (rF none) 0 P ops Q rest a' w') →
      wpOpsIn (rF none) 0 P ops Q (List.range' k vl.length ++ rest) a w
  | [], k, s, s', ρ, lam, a, w, _, he, _, hst, _, _, hQ => by
    simp [evOps] at he; subst he
    exact hQ a ρ lam w rfl rfl hst Grow.refl
  | vo :: vl, k, s, s', ρ, lam, a, w, hops, he, hnt, hst, hfR, hfL, hQ => by
    simp only [evOps] at he
    split at he
    case h_2 => cases he
    rename_i s1 h1
    obtain ⟨v, hv, hfr⟩ := evStep_spec h1
    obtain ⟨o, ho, hsl, hdst, hd, hg⟩ := hops 0 vo (by simp)
    obtain ⟨x0, x2, x3⟩ := evVal_ext hc hv
    have x1 := x0.1
    obtain ⟨y1, y2⟩ := evOps_len hc he
    rw [List.length_cons, List.range'_succ, List.cons_append, wpOpsIn_cons]
    have hfR1 : FreeR ρ s.H.length s1.H.length := fun b h1 h2 => hfR b h1 (by omega)
    have hfL1 : FreeL lam s.L.length s1.L.length := fun b h1 h2 => hfL b h1 (by omega)
    refine step_sim (A := fun _ => True) (nt := nt) hcall (by simpa using ho) hsl hg hv hst.fr hst.H hst.L (fun _ _ _ => trivial) hfR1 hfL1 (fun x ρ' lam' w' hx g r1 r2 => ?_)
    have r2' : RelL (fun _ => True) ρ' lam' s1.L w' := ⟨r2.dom, r2.inj, r2.disj, fun id r cs _ hi hcs => r2.row id r cs (Or.inl trivial) hi hcs⟩
    have hst1 : Stands ρ' lam' s1 (a.put o.dst x) w' := by
      have := hst.put (dst := o.dst) hx g hfR1 hfL1 r1 r2' (fun d e => Nat.lt_of_lt_of_le (hd d e) hnt)
      rw [← hdst] at this ⊢
      rw [← hfr] at this
      exact this
    refine seq_simP hcall hc rest vl (k + 1) s1 s' ρ' lam' (a.put o.dst x) w' (fun i vo' hi => ?_) he (by rw [size_put]; exact hnt) hst1 (g.freeR (Nat.le_refl _) fun b h1 h2 => hfR b (by omega) h2) (g.freeL (Nat.le_refl _) fun b h1 h2 => hfL b (by omega) h2) (fun a' ρ'' lam'' w'' e1 e2 hs'' g2 => ?_)
    · have := hops (i + 1) vo' (by simpa using hi)
      rw [show k + 1 + i = k + (i + 1) by omega]; exact this
    · refine hQ a' ρ'' lam'' w'' ?_ (by rw [e2, size_put]) hs'' ?_
      · rw [e1]; cases o.dst <;> rfl
      · exact Grow.trans g.tgTrue g2 r2'.dom
theorem slim_reg {c : Code} {vops : List VOper} (h : slimCode P glob nt c = some (.reg vops)) (hent : entAt vops = none) : ∃ id ops, c = .region id ops false ∧ slimOpers P glob nt ops ops.toList = some vops := by
  cases c <;> simp only [slimCode] at h
  case region id ops draw =>
    split at h
    case h_2 => cases h
    rename_i vl hv
    cases draw with
    | true =>
      simp only [if_true] at h
      split at h
      case isFalse => cases h
      split at h
      · rename_i hi; cases h; simp [incOk, hent] at hi
      · split at h <;> cases h
    | false =>
      simp only [Bool.false_eq_true, if_false] at h
      cases h; exact ⟨id, ops, rfl, hv⟩
  case seq => split at h <;> cases h
  case cond => split at h <;> cases h
  case rangeFunc => split at h <;> cases h
  all_goals (first | (cases h; done) | (simp only [Option.map_eq_some_iff] at h; obtain ⟨_, _, h⟩ := h; cases h))
/-- a region up to one of its operations -/
theorem reg_upto (hm : P.follows .mixedOrders = true) (hT : TblOk P T) {pre post : List VOper} {s s1 : St} {n : Nat} (he : evOps (evFn T n) lim pre s = some s1) {ops : Array Oper} (hops : slimOpers P glob nt ops ops.toList = some (pre ++ post))
    {Q : Exit → Act → World → Prop} {id : Nat} {ρ : Loc} {lam : Lam} {a : Act} {w : World} (hnt : nt = a.tmps.size) (hst : Stands ρ lam s a w) (hf : FreeA ρ s.H.length) (hfl : FreeAL lam s.L.length)
    (hQ : ∀ a' ρ' lam' w', a'.defers = a.defers → a'.tmps.size = a.tmps.size → Stands ρ' lam' s1 a' w' → Grow lim (fun _ => True) ρ lam s.L s.H w ρ' lam' s1.L s1.H w' → wpOpsIn (rF none) 0 P ops Q (List.range' pre.length post.length) a' w') :
    (Code.region id ops false).wpIn (rF none) 0 P Q a w := by
  obtain ⟨hlen, hget⟩ := slimOpers_get hops
  have hlv : (pre ++ post).length = ops.size := by simpa using hlen
  refine wpIn_region ?_
  have e : List.range ops.size = List.range' 0 pre.length ++ List.range' pre.length post.length := by
    rw [List.range_eq_range', ← hlv, List.length_append, List.range'_append_1.symm]
    simp
  rw [e]
  refine seq_simP (glob := glob) (nt := nt) (lim := lim) (evFn_ok hm hT n) (evFn_ext T n) _ pre 0 s s1 ρ lam a w (fun i vo hi => ?_) he (Nat.le_of_eq hnt) hst hf.r hfl.l hQ
  have hi' : i < pre.length := (List.getElem?_eq_some_iff.1 hi).1
  have hlt : i < ops.size := by rw [← hlv, List.length_append]; omega
  obtain ⟨vo', q1, q2⟩ := hget i ops[i] (by simp [hlt])
  rw [List.getElem?_append_left hi', hi] at q1; cases q1
  obtain ⟨a1, a2, a3, a4⟩ := slimOper_spec q2
  exact ⟨ops[i], by rw [Nat.zero_add]; exact Array.getElem?_eq_getElem hlt, a1, a2, a3, a4⟩
theorem pan_reg (hm : P.follows .mixedOrders = true) (hT : TblOk P T) {pre post : List VOper} {o : VOper} {s s1 : St} {n : Nat} {f : FuncId} {args : List V} (hent : entAt (pre ++ o :: post) = none) (he : evOps (evFn T n) lim pre s = some s1) (hw : wanted s1.fr o.guard = true)
    (ho : evOp lim s1.fr s1.L s1.H o.op = some (.call f args)) (hp : PanAt P lim f args s1.H) : PanC P lim glob nt (.reg (pre ++ o :: post)) s := by
  intro c ρ lam a w hs hr hnt hst hf hfl
  obtain ⟨id, ops, rfl, hops⟩ := slim_reg hs hent
  refine reg_upto hm hT he hops hnt hst hf hfl fun a' ρ' lam' w' hd hz hst' g => ?_
  obtain ⟨hlen, hget⟩ := slimOpers_get hops
  have hlv : (pre ++ o :: post).length = ops.size := by simpa using hlen
  have hlt : pre.length < ops.size := by rw [← hlv]; simp
  obtain ⟨vo', q1, q2⟩ := hget pre.length ops[pre.length] (by simp [hlt])
  rw [List.getElem?_append_right (Nat.le_refl _)] at q1
  simp at q1; subst q1
  obtain ⟨a1, a2, a3, a4⟩ := slimOper_spec q2
  rw [List.length_cons, List.range'_succ, wpOpsIn_cons]
  unfold wpOpIn
  simp only [Array.getElem?_eq_getElem hlt]
  rw [wanted_rel hst'.fr a4, hw]
  simp only [if_true]
  unfold Oper.wpIn
  refine ⟨fun _ _ => trivial, ?_⟩
  rw [Oper.semAt_eq _ _ _ (slim_nodefer a1 (by intro e; rw [e] at ho; simp [evOp] at ho))]
  obtain ⟨xs, hrun, hxs⟩ := simCall (w := w') a1 ho hst'.fr hp.1 hp.2.1
  rw [hrun, Oper.uponIn_enter]
  refine ⟨fun h => by simp [rF, Fence.wide] at h, callsIn_rF ((hp.2.2 ρ' w' xs hst'.H hst'.fr.gl hxs (g.freeA hf)).mono ?_)⟩
  rintro e w2 ⟨⟨v, rfl⟩, hl⟩
  refine ⟨⟨v, rfl⟩, hd, PLow.after g ⟨hl.os, hl.tape, hl.output, hl.size, fun r h1 h2 _ => hl.keep r h1 h2 (fun i => by simp)⟩⟩
/-- a function that panics -/
theorem pan_fn {f : FuncId} {fn : Func} {vf : VFn} (hfn : P.funcs[f]? = some fn) (hsl : slimFn P glob fn = some vf) (hn : noRd fn = true) (hy : f ≠ yB) {args : List V} {H : Hp} (hlen : args.length = vf.nparams) (h : PanC P lim glob fn.ntmps vf.body ⟨fr0 args, [], H⟩) : PanAt P lim f args H := by
  unfold slimFn at hsl
  split at hsl
  · cases hsl
  rename_i c hbody
  split at hsl
  case isFalse => cases hsl
  rename_i hnt
  split at hsl
  case h_2 => cases hsl
  rename_i rs vc hrs hvc
  cases hsl
  refine ⟨by simp [bodied, hfn, hbody, hnt.2], hy, fun ρ w xs hH hG hxs hf => ?_⟩
  have hxl : xs.size = args.length := by
    have := hxs.1
    simp at this; omega
  have hr : rsOf c = [] := by
    unfold noRd at hn
    rw [hbody] at hn
    simpa using hn
  simp only at hlen h
  refine (callsIn_wide (n := 0)).1 (callsIn_of_wp (F := rF none) hfn hbody trivial (wpIn_mono (h c ρ (fun _ => none) _ w hvc hr ?_ (start_stands hH hG hxs _) hf (fun _ _ => rfl)) ?_))
  · simp; omega
  · rintro e a' w' ⟨⟨v, rfl⟩, hd, hl⟩
    exact ⟨hd, ⟨v, rfl⟩, hl⟩
def isPI : VOp → Bool
  | .x (.mkI _) _ => true
  | .x .pan _ => true
  | _ => false
theorem slim_PI {o : Oper} {v : VOp} (h : slimOp0 P glob o = some v) (hv : isPI v = true) : (∃ t X, o.op = .makeInterface t X) ∨ ∃ X, o.op = .panic X := by
  cases ho : o.op with
  | makeInterface t X => exact Or.inl ⟨t, X, rfl⟩
  | panic X => exact Or.inr ⟨X, rfl⟩
  | call c =>
    exfalso
    simp only [slimOp0, ho] at h
    cases hc : c.callee with
    | value f =>
      rw [hc] at h
      cases f with
      | func f =>
        simp only at h
        split at h
        · simp only [Option.map_eq_some_iff] at h; obtain ⟨_, _, h⟩ := h; subst h; cases hv
        · cases h
      | tmp t =>
        simp only [Option.map_eq_some_iff] at h; obtain ⟨_, _, h⟩ := h; subst h; cases hv
      | const v => cases h
      | global g => cases h
    | invoke r m => rw [hc] at h; cases h
    | builtin b =>
      rw [hc] at h
      simp only at h
      unfold slimBuiltin at h
      cases b <;> simp only at h <;> (repeat' (split at h)) <;> (try (simp only [Option.map_eq_some_iff] at h; obtain ⟨_, _, h⟩ := h; subst h; cases hv; done)) <;> (try (cases h; done)) <;> (cases h; cases hv)
  | makeFunc X fs cs => 
    exfalso
    cases X <;> simp only [slimOp0, ho] at h <;> (repeat' (split at h)) <;> (try (cases h; done)) <;> (cases h; cases hv)
  | slice t x lo hi mx =>
    exfalso
    cases mx <;> simp only [slimOp0, ho] at h <;> (repeat' (split at h)) <;> (try (simp only [Option.map_eq_some_iff] at h; obtain ⟨_, _, h⟩ := h; subst h; cases hv; done)) <;> (try (cases h; done)) <;> (cases h; cases hv)
  | next x b =>
    exfalso
    cases b <;> simp only [slimOp0, ho] at h <;> (repeat' (split at h)) <;> (try (cases h; done)) <;> (cases h; cases hv)
  | makeMap t x =>
    exfalso
    cases x <;> simp only [slimOp0, ho] at h <;> (try (cases h; done)) <;> (cases h; cases hv)
  | _ =>
    exfalso
    simp only [slimOp0, ho] at h <;> (repeat' (split at h)) <;> (try (simp only [Option.map_eq_some_iff] at h; obtain ⟨_, _, h⟩ := h; subst h; cases hv; done)) <;> (try (cases h; done)) <;> (cases h; cases hv)
theorem slim_mkI {o : Oper} {t : Nat} {x : Opd} (h : slimOp P glob o = some (.x (.mkI t) [x])) : ∃ X, o.op = .makeInterface t X ∧ slimOpd X = some x := by
  rcases slimOp_or h with h | h
  case inr => cases h
  rcases slim_PI h rfl with ⟨ty, X, ho⟩ | ⟨X, ho⟩
  · simp only [slimOp0, ho] at h
    split at h
    · cases h
    simp only [Option.map_eq_some_iff] at h
    obtain ⟨y, hy, h⟩ := h
    simp only [VOp.x.injEq, XOp.mkI.injEq, List.cons.injEq, and_true] at h
    obtain ⟨rfl, rfl⟩ := h
    exact ⟨X, ho, hy⟩
  · simp only [slimOp0, ho, Option.map_eq_some_iff] at h
    obtain ⟨y, hy, h⟩ := h
    simp at h
theorem slim_pan {o : Oper} {x : Opd} (h : slimOp P glob o = some (.x .pan [x])) : ∃ X, o.op = .panic X ∧ slimOpd X = some x := by
  rcases slimOp_or h with h | h
  case inr => cases h
  rcases slim_PI h rfl with ⟨ty, X, ho⟩ | ⟨X, ho⟩
  · simp only [slimOp0, ho] at h
    split at h
    · cases h
    simp only [Option.map_eq_some_iff] at h
    obtain ⟨y, hy, h⟩ := h
    simp at h
  · simp only [slimOp0, ho, Option.map_eq_some_iff] at h
    obtain ⟨y, hy, h⟩ := h
    simp only [VOp.x.injEq, List.cons.injEq, and_true, true_and] at h
    subst h
    exact ⟨X, ho, hy⟩
theorem slimOpd_t {X : Operand} {d : Nat} (h : slimOpd X = some (.t d)) : X = .tmp d := by
  cases X with
  | tmp t => simp [slimOpd] at h; rw [h]
  | _ => simp [slimOpd] at h <;> (try split at h) <;> simp_all
/-- a region that ends in a panic of its own -/
theorem pan_own (hm : P.follows .mixedOrders = true) (hT : TblOk P T) {pre post : List VOper} {s s1 : St} {n t d : Nat} {dst : Option Nat} {x : Opd} {u : TypeDesc} (hu : P.underlying t = some u) (hui : ∀ i, u ≠ .interface i)
    (hent : entAt (pre ++ ⟨some d, .x (.mkI t) [x], none, []⟩ :: ⟨dst, .x .pan [.t d], none, []⟩ :: post) = none) (he : evOps (evFn T n) lim pre s = some s1) : PanC P lim glob nt (.reg (pre ++ ⟨some d, .x (.mkI t) [x], none, []⟩ :: ⟨dst, .x .pan [.t d], none, []⟩ :: post)) s := by
  intro c ρ lam a w hs hr hnt hst hf hfl
  obtain ⟨id, ops, rfl, hops⟩ := slim_reg hs hent
  refine reg_upto hm hT he hops hnt hst hf hfl fun a' ρ' lam' w' hd hz hst' g => ?_
  obtain ⟨hlen, hget⟩ := slimOpers_get hops
  have hlv : (pre ++ ⟨some d, .x (.mkI t) [x], none, []⟩ :: ⟨dst, .x .pan [.t d], none, []⟩ :: post).length = ops.size := by simpa using hlen
  have hlt : pre.length < ops.size := by rw [← hlv]; simp
  have hlt2 : pre.length + 1 < ops.size := by rw [← hlv]; simp
  obtain ⟨vo1, q1, q2⟩ := hget pre.length ops[pre.length] (by simp [hlt])
  rw [List.getElem?_append_right (Nat.le_refl _)] at q1
  simp at q1; subst q1
  obtain ⟨a1, a2, a3, a4⟩ := slimOper_spec q2
  obtain ⟨vo2, r1, r2⟩ := hget (pre.length + 1) ops[pre.length + 1] (by simp [hlt2])
  rw [List.getElem?_append_right (Nat.le_succ _)] at r1
  simp at r1; subst r1
  obtain ⟨b1, b2, b3, b4⟩ := slimOper_spec r2
  obtain ⟨X, ho1, hX⟩ := slim_mkI a1
  obtain ⟨Y, ho2, hY⟩ := slim_pan b1
  have hYd := slimOpd_t hY
  subst hYd
  have hdn : d < a'.tmps.size := by
    have h1 : d < nt := a3 d a2.symm
    rw [hz, ← hnt]; exact h1
  rw [List.length_cons, List.range'_succ, wpOpsIn_cons]
  unfold wpOpIn
  simp only [Array.getElem?_eq_getElem hlt]
  rw [wanted_rel hst'.fr a4]
  simp only [wanted, if_true]
  unfold Oper.wpIn
  refine ⟨fun _ _ => trivial, ?_⟩
  rw [Oper.semAt_eq _ _ _ (slim_nodefer a1 (by intro e; cases e))]
  have hrun1 : (execOp a'.eval ops[pre.length]).run P w' = .ok (.value (.iface t (a'.eval X))) w' := by
    simp only [execOp, ho1]
    have : (Instr.makeInterface t (a'.eval X)).run P w' = .ok (.iface t (a'.eval X)) w' := by
      unfold Instr.makeInterface
      simp only [Sem.run_bind, run_underlying hu, Result.andThen_ok]
      cases u <;> first | rfl | exact absurd rfl (hui _)
    simp [this]
  rw [hrun1, Oper.uponIn_value]
  rw [List.length_cons, List.range'_succ, wpOpsIn_cons]
  unfold wpOpIn
  simp only [Array.getElem?_eq_getElem hlt2]
  have hg2 : ops[pre.length + 1].guard = none := by
    revert b4
    cases ops[pre.length + 1].guard with
    | none => intro _; rfl
    | some q => rintro ⟨s, _, h⟩; cases h
  have hw2 : Region.wanted ops[pre.length + 1] (yielded ops (a'.put ops[pre.length].dst (.iface t (a'.eval X))).tmps) = true := by
    unfold Region.wanted; rw [hg2]
  rw [hw2]
  simp only [if_true]
  unfold Oper.wpIn
  refine ⟨fun _ _ => trivial, ?_⟩
  rw [Oper.semAt_eq _ _ _ (slim_nodefer b1 (by intro e; cases e))]
  have hev : (a'.put ops[pre.length].dst (.iface t (a'.eval X))).eval (.tmp d) = .iface t (a'.eval X) := by
    rw [← a2]
    simp [Act.put, Act.eval, hdn]
  have hrun2 : (execOp (a'.put ops[pre.length].dst (.iface t (a'.eval X))).eval ops[pre.length + 1]).run P w' = .halt (.panic (.iface t (a'.eval X))) w' := by
    simp only [execOp, ho2, hev]
    rfl
  rw [hrun2, Oper.uponIn_panic]
  refine ⟨⟨(t, a'.eval X), rfl⟩, ?_, PLow.after g PLow.refl⟩
  rw [← hd]
  cases ops[pre.length].dst <;> rfl
end
end Go.Proofs.YtpdnbmnnkefedaaGreatDoor.Vm
