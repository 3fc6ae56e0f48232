/- Code, functions, calls: what the machine says, the model does. -/
import Derived.Test.YtpdnbmnnkefedaaGreatDoorVmLoop
import Derived.Scope
import Derived.LoopN
namespace Go.Proofs.YtpdnbmnnkefedaaGreatDoor.Vm
open Go
set_option linter.unusedVariables false
set_option linter.unusedSimpArgs false

section
variable {call : CallFn} {lim : Nat}

theorem evOps_ext (hc : CallExt call) : ∀ {l : List VOper} {s s' : St}, evOps call lim l s = some s' → HpExt lim s.H s'.H ∧ s.L.length ≤ s'.L.length
  | [], s, s', h => by simp [evOps] at h; subst h; exact ⟨.refl, Nat.le_refl _⟩
  | o :: l, s, s', h => by
    simp only [evOps] at h
    split at h
    · rename_i s1 h1
      obtain ⟨v, hv, _⟩ := evStep_spec h1
      obtain ⟨e1, e2, _⟩ := evVal_ext hc hv
      obtain ⟨f1, f2⟩ := evOps_ext hc h
      exact ⟨e1.trans f1, Nat.le_trans e2 f2⟩
    · cases h

theorem evHeadS_ext (hc : CallExt call) {head : List VOper} {s s' : St} (h : evHeadS call lim 0 head s [] ([], false) = some s') : HpExt lim s.H s'.H ∧ s.L.length ≤ s'.L.length := by
  obtain ⟨σ, acc, hp, val, h0, hend, R⟩ := run_of_head h
  have h1 := run_Hle hc R (i := 0) (j := head.length) (by omega) (Nat.le_refl _)
  have h2 := run_lim hc R (i := 0) (j := head.length) (by omega) (Nat.le_refl _)
  have h3 := run_L hc R (i := 0) (j := head.length) (by omega) (Nat.le_refl _)
  rw [h0, hend] at h1 h2 h3
  exact ⟨⟨h1, h2⟩, h3⟩
theorem evHead_ext (hc : CallExt call) {head : List VOper} {s s' : St} (h : evHead call 0 head s [] = some s') : HpExt lim s.H s'.H ∧ s.L.length ≤ s'.L.length :=
  evHeadS_ext hc (evHeadS_of rfl h)

theorem evCode_ext (hc : CallExt call) : ∀ {n : Nat} {c : VCode} {s s' : St} {e : VExit}, evCode call lim n c s = some (e, s') → HpExt lim s.H s'.H ∧ s.L.length ≤ s'.L.length
  | 0, c, s, s', e, h => by simp [evCode] at h
  | n + 1, c, s, s', e, h => by
    have rf : HpExt lim s.H s.H ∧ s.L.length ≤ s.L.length := ⟨.refl, Nat.le_refl _⟩
    cases c with
    | skip => simp [evCode] at h; obtain ⟨_, rfl⟩ := h; exact rf
    | exit id => simp [evCode] at h; obtain ⟨_, rfl⟩ := h; exact rf
    | ret => simp [evCode] at h; obtain ⟨_, rfl⟩ := h; exact rf
    | reg ops =>
      simp only [evCode] at h
      split at h
      · rename_i s1 h1; cases h; exact evOps_ext hc h1
      · cases h
    | draw head tail =>
      simp only [evCode] at h
      split at h
      case h_2 => cases h
      rename_i s1 h1
      split at h
      case h_2 => cases h
      rename_i s2 h2
      cases h
      obtain ⟨a1, a2⟩ := evHead_ext (lim := lim) hc h1
      obtain ⟨b1, b2⟩ := evOps_ext hc h2
      exact ⟨a1.trans b1, Nat.le_trans a2 b2⟩
    | drawS head tail =>
      simp only [evCode] at h
      split at h
      case h_2 => cases h
      rename_i s1 h1
      split at h
      case h_2 => cases h
      rename_i s2 h2
      cases h
      obtain ⟨a1, a2⟩ := evHeadS_ext hc h1
      obtain ⟨b1, b2⟩ := evOps_ext hc h2
      exact ⟨a1.trans b1, Nat.le_trans a2 b2⟩
    | seq a b =>
      simp only [evCode] at h
      split at h
      · rename_i s1 h1
        obtain ⟨a1, a2⟩ := evCode_ext hc h1
        obtain ⟨b1, b2⟩ := evCode_ext hc h
        exact ⟨a1.trans b1, Nat.le_trans a2 b2⟩
      · exact evCode_ext hc h
    | cond c a b =>
      simp only [evCode] at h
      split at h
      · exact evCode_ext hc h
      · exact evCode_ext hc h
      · cases h
    | block id body =>
      simp only [evCode] at h
      split at h
      · rename_i id' s1 h1
        have := evCode_ext hc h1
        split at h <;> (cases h; exact this)
      · exact evCode_ext hc h
    | loop body =>
      simp only [evCode] at h
      split at h
      · rename_i s1 h1
        obtain ⟨a1, a2⟩ := evCode_ext hc h1
        obtain ⟨b1, b2⟩ := evCode_ext hc h
        exact ⟨a1.trans b1, Nat.le_trans a2 b2⟩
      · exact evCode_ext hc h
    | scope body =>
      simp only [evCode] at h
      exact evCode_ext hc h
    | stuck => simp [evCode] at h
    | prim _ => simp [evCode] at h
    | rangeF g f ps nt =>
      simp only [evCode] at h
      split at h
      case h_2 => cases h
      split at h
      · cases h
      split at h
      case h_2 => cases h
      rename_i v H2 h1
      split at h
      case h_2 => cases h
      cases h
      obtain ⟨e1, e2⟩ := hc _ _ _ _ _ _ h1
      simp only [List.length_append, List.length_cons, List.length_nil] at e1
      refine ⟨⟨by simp; omega, fun b hb hl => ?_⟩, Nat.le_refl _⟩
      simp only
      rw [List.getElem?_set_ne (by omega), e2 b (by simp; omega) hl, List.getElem?_append_left hb]
end

/-- what a round does -/
theorem evYield_spec {T : Tbl} {call : CallFn} {n lim : Nat} {H H' : Hp} {args : List V} {v : V} (h : evYield T call n lim H args = some (v, H')) :
    ∃ b xs f ps fr vf x y s1 f1 ps1 fr1 s, args = .yl b :: xs ∧ H[b]? = some (.loop f ps fr) ∧ lim ≤ b ∧ xs.length = ps.length ∧ T f = some vf ∧ vf.nparams = fr.length ∧ vf.body = .seq x y ∧
      evCode call lim n x ⟨frR (setPs fr ps xs), [], H⟩ = some (.normal, s1) ∧ s1.H[b]? = some (.loop f1 ps1 fr1) ∧ evCode call lim n y ⟨s1.fr, s1.L, s1.H.set b .dead⟩ = some (.normal, s) ∧ s.H[b]? = some .dead ∧ v = .bool true ∧ H' = s.H.set b (.loop f ps fr) ∧ rB ≤ f := by
  unfold evYield at h
  split at h
  case h_2 => cases h
  rename_i b xs
  split at h
  case h_2 => cases h
  rename_i f ps fr hb
  split at h
  case isFalse => cases h
  rename_i hlb
  split at h
  case h_2 => cases h
  rename_i vf hvf
  split at h
  case isFalse => cases h
  rename_i hnp
  split at h
  case h_2 => cases h
  rename_i x y hbody
  split at h
  case h_2 => cases h
  rename_i s1 h1
  split at h
  case h_2 => cases h
  rename_i f1 ps1 fr1 hb1
  split at h
  case h_2 => cases h
  rename_i s h2
  split at h
  case h_2 => cases h
  rename_i hd
  cases h
  exact ⟨b, xs, f, ps, fr, vf, x, y, s1, f1, ps1, fr1, s, rfl, hb, hlb.1, hlb.2.1, hvf, hnp, hbody, h1, hb1, h2, hd, rfl, rfl, hlb.2.2⟩
theorem evYield_ext {T : Tbl} {call : CallFn} (hc : CallExt call) {n lim : Nat} {H H' : Hp} {args : List V} {v : V} (h : evYield T call n lim H args = some (v, H')) : HpExt lim H H' := by
  obtain ⟨b, xs, f, ps, fr, vf, x, y, s1, f1, ps1, fr1, s, _, hb, hl, _, _, _, _, h1, hb1, h2, hd, rfl, rfl, _⟩ := evYield_spec h
  obtain ⟨e1, e2⟩ := (evCode_ext hc h1).1
  obtain ⟨e3, e4⟩ := (evCode_ext hc h2).1
  simp only [List.length_set] at e1 e3
  refine ⟨by simp only [List.length_set]; omega, fun b' hb' hl' => ?_⟩
  rw [List.getElem?_set_ne (by omega), e4 b' (by simp only [List.length_set]; omega) hl']
  simp only
  rw [List.getElem?_set_ne (by omega), e2 b' hb' hl']

theorem evFn_ext (T : Tbl) : ∀ n, CallExt (evFn T n)
  | 0 => fun lim f args H v H' h => by simp [evFn] at h
  | n + 1 => fun lim f args H v H' h => by
    simp only [evFn] at h
    split at h
    · exact evYield_ext (evFn_ext T n) h
    split at h
    · cases h
    split at h
    · cases h
    split at h
    case isFalse => cases h
    split at h
    · split at h
      · cases h; exact .app _
      · cases h
    split at h
    · cases h
    · rename_i e s _ hs
      split at h
      · cases h
        exact (evCode_ext (evFn_ext T n) hs).1
      · cases h
    · cases h

def toExit : VExit → Exit
  | .normal => .normal
  | .exit id => .exit id
  | .ret => .ret

section
variable {F : Fence} {n : Nat} {P : Program} {Q : Exit → Act → World → Prop} {a : Act} {w : World} {b : Frame} {k : List Item} {cs : List Frame}
theorem stepR_scope {c : Code} : step P (lone (b.atR a (.code (.scope c) :: k)) cs w) = .next (lone (b.atR a (.code c :: .inScope c :: k)) cs w) :=
  step_lone_go (by simp [stepG, stepG.exec, Frame.atR])
theorem stepR_inScope {c : Code} : step P (lone (b.atR a (.inScope c :: k)) cs w) = .next (lone (b.atR a k) cs w) :=
  step_lone_go (by simp [stepG, stepG.exec, Frame.atR])
theorem wpIn_scope_straight {c : Code} (h : c.wpIn F n P (Exit.noGoto Q) a w) : (Code.scope c).wpIn F n P Q a w := by
  intro b k cs hro hb hr
  obtain ⟨e, a₁, w₁, hq, harr⟩ := h b (.inScope c :: k) cs hro hb hr
  have s0 := StepsIn.one (fenced_calm (P := P) (fr := b.atR a (.code (.scope c) :: k)) (cs := cs) (w := w) hb hr rfl) (stepR_scope (P := P) (b := b) (a := a) (k := k) (c := c))
  cases e with
  | normal => exact ⟨.normal, a₁, w₁, hq, .trans s0 (StepsIn.trans harr (.one (fenced_calm (fr := b.atR a₁ (.inScope c :: k)) hb hr rfl) stepR_inScope))⟩
  | exit id =>
    have hx : exitTo id (.inScope c :: k) = exitTo id k := by simp [exitTo]
    exact ⟨.exit id, a₁, w₁, hq, fun k' hk => StepsIn.trans s0 (harr.1 k' (by rw [hx]; exact hk)),
      fun hr' hk => let ⟨k₁, h1, h2⟩ := harr.2 hr' (by rw [hx]; exact hk); ⟨k₁, h1, StepsIn.trans s0 h2⟩⟩
  | goto l => exact hq.elim
  | ret => exact ⟨_, a₁, w₁, hq, .of_steps s0 harr⟩
  | panic ch => exact ⟨_, a₁, w₁, hq, .of_steps s0 harr⟩
  | outgrown => exact ⟨_, a₁, w₁, hq, .of_steps s0 harr⟩
end

/-- what a piece of code leaves -/
def Post (lim : Nat) (e : VExit) (s s' : St) (ρ : Loc) (lam : Lam) (a : Act) (w : World) : Exit → Act → World → Prop := fun e' a' w' =>
  e' = toExit e ∧ ∃ ms : List Nat, a'.defers = ms.map mkD ++ a.defers ∧ a'.tmps.size = a.tmps.size ∧ ∃ ρ' lam', Stands ρ' lam' s' a' w' ∧ Grow lim (fun _ => True) ρ lam s.L s.H w ρ' lam' s'.L s'.H w' ∧ MkOk w.heap.size ms lam' w'

section
variable {P : Program} {call : CallFn} {lim : Nat} {glob : List Nat} {nt : Nat} {r : Option Nat}

theorem Post.trans {e : VExit} {s s1 s2 : St} {ρ ρ1 : Loc} {lam lam1 : Lam} {a a1 : Act} {w w1 : World} {ms : List Nat} (hd : a1.defers = ms.map mkD ++ a.defers) (hz : a1.tmps.size = a.tmps.size) (g : Grow lim (fun _ => True) ρ lam s.L s.H w ρ1 lam1 s1.L s1.H w1)
    (hst : Stands ρ1 lam1 s1 a1 w1) (hm : MkOk w.heap.size ms lam1 w1) {e' : Exit} {a' : Act} {w' : World} (h : Post lim e s1 s2 ρ1 lam1 a1 w1 e' a' w') : Post lim e s s2 ρ lam a w e' a' w' := by
  obtain ⟨h1, ms2, h2, h3, ρ', lam', h4, h5, h6⟩ := h
  exact ⟨h1, ms2 ++ ms, by rw [h2, hd]; simp, h3.trans hz, ρ', lam', h4, Grow.trans g h5 hst.L.dom, (hm.keep hst.H h5).app h6 g.size fun r hr => (Array.getElem?_eq_some_iff.1 (hm.2 r hr).2.1).1⟩

/-- ONE PIECE OF CODE -/
theorem code_sim (hm : P.follows .mixedOrders = true) (hcall : CallOk P call) (hc : CallExt call) :
    ∀ (n : Nat) (c : Code) (vc : VCode) (s s2 : St) (e : VExit) (ρ : Loc) (lam : Lam) (a : Act) (w : World), slimCode P glob nt c = some vc → evCode call lim n vc s = some (e, s2) → nt = a.tmps.size → Stands ρ lam s a w →
      FreeR ρ s.H.length s2.H.length → FreeL lam s.L.length s2.L.length → (∀ t ∈ rsOf c, r = none ∧ ∀ f', rMark glob = some f' → rdOf theP f' = some t) → c.wpIn (rF r) 0 P (Post lim e s s2 ρ lam a w) a w
  | 0, c, vc, s, s2, e, ρ, lam, a, w, hs, he, hnt, hst, hfR, hfL, hR => by simp [evCode] at he
  | n + 1, c, vc, s, s2, e, ρ, lam, a, w, hs, he, hnt, hst, hfR, hfL, hR => by
    have stay : ∀ ex, e = ex → s2 = s → Post lim e s s2 ρ lam a w (toExit ex) a w := by
      rintro ex rfl rfl
      exact ⟨rfl, [], rfl, rfl, ρ, lam, hst, Grow.refl, .nil⟩
    cases c with
    | skip =>
      simp [slimCode] at hs; subst hs
      simp [evCode] at he
      exact wpIn_skip (stay .normal he.1.symm he.2.symm)
    | label l =>
      simp [slimCode] at hs; subst hs
      simp [evCode] at he
      exact wpIn_label (stay .normal he.1.symm he.2.symm)
    | exit id =>
      simp [slimCode] at hs; subst hs
      simp [evCode] at he
      exact wpIn_exit (stay (.exit id) he.1.symm he.2.symm)
    | ret =>
      simp [slimCode] at hs; subst hs
      simp [evCode] at he
      exact wpIn_ret (stay .ret he.1.symm he.2.symm)
    | region id ops draw =>
      simp only [slimCode] at hs
      split at hs
      case h_2 => cases hs; simp [evCode] at he
      rename_i vops hops
      split at hs
      · rename_i hdraw
        subst hdraw
        split at hs
        case isFalse => cases hs; simp [evCode] at he
        rename_i hlex
        by_cases hinc : incOk ops vops = true
        · rw [if_pos hinc] at hs
          cases hs
          simp only [evCode] at he
          split at he
          case h_2 => cases he
          rename_i s1 h1
          cases he
          exact inc_sim (glob := glob) hm hcall hc hops hlex hinc h1 (Nat.le_of_eq hnt) hst hfR hfL fun a' ρ' lam' w' e1 e2 e3 g => ⟨rfl, [], e1, e2, ρ', lam', e3, g, .nil⟩
        rw [if_neg hinc] at hs
        split at hs
        · cases hs
          simp only [evCode] at he
          split at he
          case h_2 => cases he
          rename_i s1 h1
          split at he
          case h_2 => cases he
          rename_i s3 h2
          cases he
          exact draw_sim (glob := glob) hm hcall hc hops hlex h1 h2 (Nat.le_of_eq hnt) hst hfR hfL fun a' ρ' lam' w' e1 e2 e3 g => ⟨rfl, [], e1, e2, ρ', lam', e3, g, .nil⟩
        · cases hs
          simp only [evCode] at he
          split at he
          case h_2 => cases he
          rename_i s1 h1
          split at he
          case h_2 => cases he
          rename_i s3 h2
          cases he
          exact draw_sim (glob := glob) hm hcall hc hops hlex (evHeadS_of rfl h1) h2 (Nat.le_of_eq hnt) hst hfR hfL fun a' ρ' lam' w' e1 e2 e3 g => ⟨rfl, [], e1, e2, ρ', lam', e3, g, .nil⟩
      · rename_i hdraw
        have : draw = false := by simpa using hdraw
        subst this
        cases hs
        simp only [evCode] at he
        split at he
        case h_2 => cases he
        rename_i s1 h1
        cases he
        obtain ⟨hlen, hget⟩ := slimOpers_get hops
        have hlv : vops.length = ops.size := by simpa using hlen
        refine wpIn_region ?_
        rw [List.range_eq_range', ← hlv]
        refine seq_sim (glob := glob) (nt := nt) (lim := lim) hcall hc vops 0 s s2 ρ lam a w (fun i vo hi => ?_) h1 (Nat.le_of_eq hnt) hst hfR hfL fun a' ρ' lam' w' e1 e2 e3 g => ⟨rfl, [], e1, e2, ρ', lam', e3, g, .nil⟩
        have hlt := (List.getElem?_eq_some_iff.1 hi).1
        rw [hlv] at hlt
        obtain ⟨vo', q1, q2⟩ := hget i ops[i] (by simp [hlt])
        rw [hi] at q1; cases q1
        obtain ⟨a1, a2, a3, a4⟩ := slimOper_spec q2
        exact ⟨ops[i], by rw [Nat.zero_add]; exact Array.getElem?_eq_getElem hlt, a1, a2, a3, a4⟩
    | seq x y =>
      simp only [slimCode] at hs
      split at hs
      case h_2 => cases hs
      rename_i vx vy hx hy
      cases hs
      simp only [evCode] at he
      refine wpIn_seq ?_
      split at he
      · rename_i s1 h1
        obtain ⟨x1, x2⟩ := evCode_ext hc he
        have := code_sim hm hcall hc n x vx s s1 .normal ρ lam a w hx h1 hnt hst (fun b g1 g2 => hfR b g1 (by have := x1.1; omega)) (fun b g1 g2 => hfL b g1 (by omega)) (fun t ht => hR t (by simp [rsOf, ht]))
        refine wpIn_mono this ?_
        rintro e' a' w' ⟨rfl, ms, hd, hz, ρ', lam', hst', g, hm1⟩
        refine wpIn_mono (code_sim hm hcall hc n y vy s1 s2 e ρ' lam' a' w' hy he (by omega) hst' (g.freeR (Nat.le_refl _) fun b g1 g2 => hfR b (by have := g.lenH; omega) g2) (g.freeL (Nat.le_refl _) fun b g1 g2 => hfL b (by have := g.lenL; omega) g2) (fun t ht => hR t (by simp [rsOf, ht]))) ?_
        intro e2 a2 w2 h2
        exact Post.trans hd hz g hst' hm1 h2
      · rename_i hne
        have := code_sim hm hcall hc n x vx s s2 e ρ lam a w hx he hnt hst hfR hfL (fun t ht => hR t (by simp [rsOf, ht]))
        refine wpIn_mono this ?_
        rintro e' a' w' ⟨rfl, rest⟩
        cases e with
        | normal => exact absurd he (hne s2)
        | exit id => exact ⟨rfl, rest⟩
        | ret => exact ⟨rfl, rest⟩
    | cond c x y =>
      simp only [slimCode] at hs
      split at hs
      case h_2 => cases hs; simp [evCode] at he
      rename_i vc vx vy hvc hx hy
      cases hs
      simp only [evCode] at he
      have hev := opd_rel hvc hst.fr
      split at he
      · rename_i hb
        rw [hb] at hev
        exact wpIn_cond_true hev.bool (code_sim hm hcall hc n x vx s s2 e ρ lam a w hx he hnt hst hfR hfL (fun t ht => hR t (by simp [rsOf, ht])))
      · rename_i hb
        rw [hb] at hev
        exact wpIn_cond_false hev.bool (code_sim hm hcall hc n y vy s s2 e ρ lam a w hy he hnt hst hfR hfL (fun t ht => hR t (by simp [rsOf, ht])))
      · cases he
    | block id body =>
      simp only [slimCode, Option.map_eq_some_iff] at hs
      obtain ⟨vb, hb, rfl⟩ := hs
      simp only [evCode] at he
      refine wpIn_block ?_
      split at he
      · rename_i id' s1 h1
        split at he
        · rename_i hid
          cases he
          refine wpIn_mono (code_sim hm hcall hc n body vb s s2 (.exit id') ρ lam a w hb h1 hnt hst hfR hfL hR) ?_
          rintro e' a' w' ⟨rfl, rest⟩
          simp only [toExit, Exit.inBlock, hid, if_true]
          exact ⟨rfl, rest⟩
        · rename_i hid
          cases he
          refine wpIn_mono (code_sim hm hcall hc n body vb s s2 (.exit id') ρ lam a w hb h1 hnt hst hfR hfL hR) ?_
          rintro e' a' w' ⟨rfl, rest⟩
          simp only [toExit, Exit.inBlock, hid, if_false]
          exact ⟨rfl, rest⟩
      · rename_i hne
        refine wpIn_mono (code_sim hm hcall hc n body vb s s2 e ρ lam a w hb he hnt hst hfR hfL hR) ?_
        rintro e' a' w' ⟨rfl, rest⟩
        cases e with
        | normal => exact ⟨rfl, rest⟩
        | exit id' => exact absurd he (hne id' s2)
        | ret => exact ⟨rfl, rest⟩
    | loop body =>
      have hs0 := hs
      simp only [slimCode, Option.map_eq_some_iff] at hs
      obtain ⟨vb, hb, rfl⟩ := hs
      have key : ∀ (m : Nat) (s : St) (ρ : Loc) (lam : Lam) (a : Act) (w : World), m ≤ n + 1 → evCode call lim m (.loop vb) s = some (e, s2) → nt = a.tmps.size → Stands ρ lam s a w → FreeR ρ s.H.length s2.H.length → FreeL lam s.L.length s2.L.length →
          Code.roundsIn (rF r) 0 P body (Post lim e s s2 ρ lam a w) m a w := by
        intro m
        induction m with
        | zero => intro s ρ lam a w _ he; simp [evCode] at he
        | succ m ih =>
          intro s ρ lam a w hmn he hnt hst hfR hfL
          simp only [evCode] at he
          rw [roundsIn_succ]
          split at he
          · rename_i s1 h1
            obtain ⟨x1, x2⟩ := evCode_ext hc he
            have h1' := code_sim hm hcall hc m body vb s s1 .normal ρ lam a w hb h1 hnt hst (fun b g1 g2 => hfR b g1 (by have := x1.1; omega)) (fun b g1 g2 => hfL b g1 (by omega)) hR
            refine wpIn_mono h1' ?_
            rintro e' a' w' ⟨rfl, ms, hd, hz, ρ', lam', hst', g, hm1⟩
            have := ih s1 ρ' lam' a' w' (by omega) he (by omega) hst' (g.freeR (Nat.le_refl _) fun b g1 g2 => hfR b (by have := g.lenH; omega) g2) (g.freeL (Nat.le_refl _) fun b g1 g2 => hfL b (by have := g.lenL; omega) g2)
            have mono : ∀ (k : Nat) (a : Act) (w : World) (Q Q' : Exit → Act → World → Prop), (∀ e a w, Q e a w → Q' e a w) → Code.roundsIn (rF r) 0 P body Q k a w → Code.roundsIn (rF r) 0 P body Q' k a w := by
              intro k
              induction k with
              | zero => intro a w Q Q' _ h; exact h
              | succ k ihk =>
                intro a w Q Q' hq h
                rw [roundsIn_succ] at h ⊢
                refine wpIn_mono h fun e a w he => ?_
                cases e <;> simp only [Exit.then] at he ⊢ <;> first | exact ihk a w Q Q' hq he | exact hq _ _ _ he
            exact mono m a' w' _ _ (fun e2 a2 w2 h2 => Post.trans hd hz g hst' hm1 h2) this
          · rename_i hne
            refine wpIn_mono (code_sim hm hcall hc m body vb s s2 e ρ lam a w hb he hnt hst hfR hfL hR) ?_
            rintro e' a' w' ⟨rfl, rest⟩
            cases e with
            | normal => exact absurd he (hne s2)
            | exit id => exact ⟨rfl, rest⟩
            | ret => exact ⟨rfl, rest⟩
      exact wpIn_loop_rounds (n + 1) (key (n + 1) s ρ lam a w (Nat.le_refl _) he hnt hst hfR hfL)
    | scope body =>
      simp only [slimCode, Option.map_eq_some_iff] at hs
      obtain ⟨vb, hb, rfl⟩ := hs
      simp only [evCode] at he
      refine wpIn_scope_straight (wpIn_mono (code_sim hm hcall hc n body vb s s2 e ρ lam a w hb he hnt hst hfR hfL hR) ?_)
      rintro e' a' w' ⟨rfl, rest⟩
      cases e <;> exact ⟨rfl, rest⟩
    | rangeFunc g ps asg bd =>
      simp only [slimCode] at hs
      split at hs
      case h_2 => cases hs; simp [evCode] at he
      rename_i vg f' hvg hf'
      cases hs
      obtain ⟨rfl, hrd⟩ := hR (ps, asg, bd) (by simp [rsOf])
      refine wpIn_mono (range_sim hcall hc hvg (hrd f' hf') he hnt hst hfR) ?_
      rintro e' a' w' ⟨rfl, rfl, rfl, ρ', h1, h2, h3⟩
      exact ⟨rfl, [w.heap.size], rfl, rfl, ρ', lam, h1, h2, h3⟩
    | _ => simp [slimCode] at hs; subst hs; simp [evCode] at he
  termination_by n => n

end
end Go.Proofs.YtpdnbmnnkefedaaGreatDoor.Vm
