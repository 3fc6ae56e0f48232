/- All operations in one theorem; a call of a function of the program. -/
import Derived.Test.YtpdnbmnnkefedaaGreatDoorVmOpsX
import Derived.RangeFuncRecord
import Derived.Laws.IdiomStrings
namespace Go.Proofs.YtpdnbmnnkefedaaGreatDoor.Vm
open Go
set_option linter.unusedVariables false
set_option linter.unusedSimpArgs false

section
variable {P : Program} {lim : Nat} {tg A : Nat → Prop} {ρ : Loc} {lam : Lam} {L L' : Lo} {H H' : Hp} {w : World} {fr : Fr} {a : Act} {o : Oper} {vo : VOp} {v : V}

/-- an operation that only computes -/
theorem pure_case {r : Option V} (hH : RelH ρ H w) (hL : RelL A ρ lam L w) (he : pureV L H r = some (.val v L' H'))
    (h : ∀ u, r = some u → ∃ x, (execOp a.eval o).run P w = .ok (.value x) w ∧ FV ρ lam u x) : OpSim P lim tg A ρ lam L H w (execOp a.eval o) v L' H' := by
  cases r with
  | none => simp [pureV] at he
  | some u =>
    simp only [pureV, Option.some.injEq, VNext.val.injEq] at he
    obtain ⟨rfl, rfl, rfl⟩ := he
    obtain ⟨x, h1, h2⟩ := h u rfl
    exact OpSim.pure h1 h2 hH hL

theorem x_case {r : Option (V × Hp)} {Q : Prop} (he : (match r with | some (v, H') => some (VNext.val v L H') | none => none) = some (.val v L' H')) (h : r = some (v, H') → L' = L → Q) : Q := by
  cases r with
  | none => cases he
  | some q =>
    obtain ⟨v1, H1⟩ := q
    simp only [Option.some.injEq, VNext.val.injEq] at he
    obtain ⟨rfl, rfl, rfl⟩ := he
    exact h rfl rfl
theorem optH_some' {r : Option V} (h : optH H r = some (v, H')) : r = some v ∧ H' = H := by
  cases r with
  | none => simp [optH] at h
  | some u => simp [optH] at h; exact ⟨by rw [h.1], h.2.symm⟩
theorem sliced {b off len sz r oo c cap l h : Nat} {u : V} (hρ : ρ b = some (r, oo, c)) (hc : off + cap * sz ≤ c) (hlen : len ≤ cap) (hlh : l ≤ h) (hh : h ≤ len)
    (hu : (if l = 0 then some (V.sl b off h sz) else if l = h then some V.sempty else some (V.sl b (off + l * sz) (h - l) sz)) = some u) (n : Nat) (hn : n = cap) :
    VR ρ u (.slice (some (if n = l then ⟨r, oo + off, none⟩ else (⟨r, oo + off, none⟩ : Addr).add (l * sz))) (h - l) (n - l)) := by
  subst hn
  split at hu
  · rename_i h0
    cases hu
    subst h0
    have e : (if n = 0 then (⟨r, oo + off, none⟩ : Addr) else (⟨r, oo + off, none⟩ : Addr).add (0 * sz)) = ⟨r, oo + off, none⟩ := by
      split <;> simp [Addr.add]
    rw [e, Nat.sub_zero, Nat.sub_zero]
    exact .sl hρ (by omega) hc
  · rename_i h0
    split at hu
    · rename_i h1
      cases hu
      subst h1
      rw [Nat.sub_self]
      exact .sempty
    · rename_i h1
      cases hu
      have hne : ¬ n = l := by omega
      rw [if_neg hne, addr_add, Nat.add_assoc]
      refine .sl hρ (by omega) ?_
      have : (n - l) * sz + l * sz = n * sz := by rw [← Nat.add_mul]; congr 1; omega
      omega

theorem eq_nil {t e : TypeId} (d : Nat) (hu : P.underlying t = some (.slice e)) (xa : Option Addr) (xn xc : Nat) : (Op.equalIn (d + 1) t (.slice xa xn xc) (.slice none 0 0)).run P w = .ok xa.isNone w := by
  cases xa <;> simp [Op.equalIn, run_underlying hu]

theorem eq_inil {t : TypeId} {ms} (d : Nat) (hu : P.underlying t = some (.interface ms)) : (Op.equalIn (d + 1) t .nilIface .nilIface).run P w = .ok true w := by
  simp [Op.equalIn, run_underlying hu]
theorem eq_ifc {t : TypeId} {ms} (d : Nat) (hu : P.underlying t = some (.interface ms)) (te : TypeId) (v : Value) : (Op.equalIn (d + 1) t (.iface te v) .nilIface).run P w = .ok false w := by
  simp [Op.equalIn, run_underlying hu]
theorem eq_pn {t e : TypeId} (d : Nat) (hu : P.underlying t = some (.pointer e)) (xa : Option Addr) : (Op.equalIn (d + 1) t (.pointer xa) (.pointer none)).run P w = .ok xa.isNone w := by
  cases xa <;> simp [Op.equalIn, run_underlying hu]
theorem FV.pnil {x : Value} (h : FV ρ lam .pnil x) : x = .pointer none := by cases h with | vr h => cases h; rfl
theorem FV.inil {x : Value} (h : FV ρ lam .inil x) : x = .nilIface := by cases h with | vr h => cases h; rfl
theorem FV.iface {t : TypeId} {v : V} {x : Value} (h : FV ρ lam (.iface t v) x) : ∃ v', x = .iface t v' := by cases h with | vr h => cases h; exact ⟨_, rfl⟩
theorem vweak_rel0 {v : V} {x : Value} (h : VR ρ v x) : VR ρ (vweak v) x := by
  cases h with
  | slc h1 h2 h3 h4 => exact .sl h1 (by omega) h4
  | _ => simp only [vweak]; constructor <;> assumption
set_option maxHeartbeats 2000000 in
theorem simOp0 {glob : List Nat} (hsl : slimOp0 P glob o = some vo) (he : evOp lim fr L H vo = some (.val v L' H')) (hF : FRel ρ lam fr a.tmps) (hH : RelH ρ H w) (hL : RelL A ρ lam L w)
    (hA : ∀ id, memId fr vo = some id → A id ∧ tg id) (hfR : FreeR ρ H.length H'.length) (hfL : FreeL lam L.length L'.length) : OpSim P lim tg A ρ lam L H w (execOp a.eval o) v L' H' := by
  cases ho : o.op with
  | move X =>
    simp only [slimOp0, ho] at hsl
    split at hsl
    · simp only [Option.map_eq_some_iff] at hsl
      obtain ⟨x, hx, rfl⟩ := hsl
      simp only [evOp, opds, evX] at he
      cases hq : vwk (opd fr x) with
      | none => rw [hq] at he; simp [optH] at he
      | some u =>
        rw [hq] at he
        simp only [optH, Option.some.injEq, VNext.val.injEq] at he
        obtain ⟨rfl, rfl, rfl⟩ := he
        unfold vwk at hq
        split at hq
        case isFalse => cases hq
        rename_i hst
        cases hq
        refine OpSim.pure (x := a.eval X) (by simp [execOp, ho]) ?_ hH hL
        exact .vr (vweak_rel0 ((opd_rel hx hF).stor hst))
    · simp only [Option.map_eq_some_iff] at hsl
      obtain ⟨x, hx, rfl⟩ := hsl
      simp only [evOp, Option.some.injEq, VNext.val.injEq] at he
      obtain ⟨rfl, rfl, rfl⟩ := he
      exact OpSim.pure (x := a.eval X) (by simp [execOp, ho]) (opd_rel hx hF) hH hL
  | makeInterface t X =>
    simp only [slimOp0, ho] at hsl
    split at hsl
    · cases hsl
    rename_i hu
    simp only [Option.map_eq_some_iff] at hsl
    obtain ⟨x, hx, rfl⟩ := hsl
    simp only [evOp, opds, evX] at he
    refine x_case he (fun hv hl => ?_)
    subst hl
    obtain ⟨hv, rfl⟩ := optH_some' hv
    unfold vmkI at hv
    split at hv
    case isFalse => cases hv
    rename_i hst
    cases hv
    refine OpSim.pure (x := .iface t (a.eval X)) ?_ (.vr (.iface ((opd_rel hx hF).stor hst))) hH hL
    unfold ifaceB at hu
    split at hu
    · exact absurd rfl hu
    · exact absurd rfl hu
    rename_i h1 h2
    cases hq : P.underlying t with
    | none => exact absurd hq h2
    | some u =>
      have hm : (Instr.makeInterface t (a.eval X)).run P w = .ok (.iface t (a.eval X)) w := by
        unfold Instr.makeInterface
        simp only [Sem.run_bind, run_underlying hq, Result.andThen_ok]
        cases u <;> first | rfl | exact absurd hq (h1 _)
      simp [execOp, ho, hm]
  | panic X =>
    simp only [slimOp0, ho, Option.map_eq_some_iff] at hsl
    obtain ⟨x, hx, rfl⟩ := hsl
    simp [evOp, evX] at he
  | assign X =>
    simp only [slimOp0, ho, Option.map_eq_some_iff] at hsl
    obtain ⟨x, hx, rfl⟩ := hsl
    simp only [evOp, Option.some.injEq, VNext.val.injEq] at he
    obtain ⟨rfl, rfl, rfl⟩ := he
    exact OpSim.pure (x := a.eval X) (by simp [execOp, ho]) (opd_rel hx hF) hH hL
  | pick C X Y =>
    simp only [slimOp0, ho] at hsl
    split at hsl
    case h_2 => cases hsl
    rename_i c x y hc hx hy
    cases hsl
    simp only [evOp] at he
    split at he
    case h_2 => cases he
    rename_i t ht
    simp only [Option.some.injEq, VNext.val.injEq] at he
    obtain ⟨rfl, rfl, rfl⟩ := he
    have hb := opd_rel hc hF
    rw [ht] at hb
    refine OpSim.pure (x := if t then a.eval X else a.eval Y) ?_ ?_ hH hL
    · simp [execOp, ho, hb.bool, asBool]
    · cases t
      · exact opd_rel hy hF
      · exact opd_rel hx hF
  | alloc t =>
    simp only [slimOp0, ho, Option.map_eq_some_iff] at hsl
    obtain ⟨z, hz, rfl⟩ := hsl
    exact sim_new hz (fun w => by simp [execOp, ho]) hH hL he hfR hfL
  | box t X =>
    simp only [slimOp0, ho, Option.map_eq_some_iff] at hsl
    obtain ⟨x, hx, rfl⟩ := hsl
    exact sim_box hx (by simp [execOp, ho]; rfl) hF hH hL he hfR hfL
  | build t parts => exact sim_build ho hsl hF hH hL he
  | buildSlice t n parts => exact sim_bslice ho hsl hF hH hL he hfR
  | makeSlice t l c => exact sim_mks ho hsl hF hH hL he hfR
  | load t X =>
    simp only [slimOp0, ho] at hsl
    split at hsl
    case h_2 => cases hsl
    rename_i g x hg hx
    cases hsl
    simp only [evOp] at he
    refine pure_case hH hL he (fun u hu => ?_)
    obtain ⟨y, h1, h2⟩ := vload_rel hu (opd_rel hx hF) hH hL (fun id off e => (hA id (by simp [memId, e])).1) hg
    exact ⟨y, by simp [execOp, ho, h1], .vr h2⟩
  | store t Xa X =>
    simp only [slimOp0, ho] at hsl
    split at hsl
    case h_2 => cases hsl
    rename_i sz xa x hsz hxa hx
    cases hsl
    exact sim_store hsz hxa hx (by simp [execOp, ho]) hF hH hL (fun id off e => hA id (by simp [memId, e])) he
  | binOp op t X Y ty =>
    simp only [slimOp0, ho] at hsl
    split at hsl
    case h_2 => cases hsl
    rename_i x y hx hy
    have hX := opd_rel hx hF
    have hY := opd_rel hy hF
    have plain : vo = .bin op x y → OpSim P lim tg A ρ lam L H w (execOp a.eval o) v L' H' := by
      intro hvo
      subst hvo
      simp only [evOp] at he
      refine pure_case hH hL he (fun u hu => ?_)
      obtain ⟨hg, z, hz1, hz2⟩ := bin_rel (P := P) (w := w) (t := t) (x := X) (y := Y) hu hX hY
      exact ⟨z, by simp only [execOp, ho, hg, Sem.run_bind, Sem.run_pure, Result.andThen_ok, hz1], .vr hz2⟩
    split at hsl
    · cases hsl; exact plain rfl
    · rename_i hu
      have boolc : ∀ neg, vo = .eqB neg x y → op = (if neg then .neq else .eql) → OpSim P lim tg A ρ lam L H w (execOp a.eval o) v L' H' := by
        intro neg hvo hop
        subst hvo
        simp only [evOp] at he
        split at he
        case h_2 => cases he
        rename_i p q hp hq
        simp only [Option.some.injEq, VNext.val.injEq] at he
        obtain ⟨rfl, rfl, rfl⟩ := he
        rw [hp] at hX; rw [hq] at hY
        have e1 := hX.bool; have e2 := hY.bool
        have hg : eqGuard op t X Y (a.eval X) (a.eval Y) = pure () := by rw [e1]; exact eqGuard_at_bool ..
        refine OpSim.pure (x := .bool (if neg then !(p == q) else p == q)) ?_ (.vr (.bool _)) hH hL
        simp only [execOp, ho, hg, Sem.run_bind, Sem.run_pure, Result.andThen_ok]
        rw [e1, e2]
        cases neg
        · simp only [Bool.false_eq_true, if_false] at hop ⊢
          subst hop
          simp only [binOp, Sem.run_bind, run_equal_bool w t p q hu, Result.andThen_ok, Sem.run_pure]
        · simp only [if_true] at hop ⊢
          subst hop
          simp only [binOp, Sem.run_bind, run_equal_bool w t p q hu, Result.andThen_ok, Sem.run_pure]
      split at hsl
      · cases hsl; exact boolc false rfl rfl
      · cases hsl; exact boolc true rfl rfl
      · cases hsl
    · cases hsl; exact plain rfl
    · rename_i hn1 hn2 hn3
      split at hsl
      · rename_i hnt
        split at hsl
        case isFalse => cases hsl
        rename_i hnc
        have hu : ∃ e, P.underlying t = some (.slice e) := by
          unfold nilType at hnt
          split at hnt
          · rename_i e he; exact ⟨e, he⟩
          · cases hnt
        obtain ⟨e, hu⟩ := hu
        have hy : a.eval Y = .slice none 0 0 := by
          unfold isNilC at hnc
          split at hnc
          · rfl
          · cases hnc
        have nilc : ∀ neg, vo = .eqN neg x → op = (if neg then .neq else .eql) → OpSim P lim tg A ρ lam L H w (execOp a.eval o) v L' H' := by
          intro neg hvo hop
          subst hvo
          simp only [evOp] at he
          refine pure_case hH hL he (fun u hv => ?_)
          have key : ∀ (xa : Option Addr) (xn xc : Nat) (b : Bool), a.eval X = .slice xa xn xc → xa.isNone = b → ∃ z, (execOp a.eval o).run P w = .ok (.value z) w ∧ FV ρ lam (.bool (if neg then !b else b)) z := by
            intro xa xn xc b e1 e2
            refine ⟨.bool (if neg then !b else b), ?_, .vr (.bool _)⟩
            have hg : eqGuard op t X Y (.slice xa xn xc) (.slice none 0 0) = pure () := by subst hop; cases neg <;> rfl
            have heq : (Op.equal t (.slice xa xn xc) (.slice none 0 0)).run P w = .ok b w := by
              rw [← e2]; exact eq_nil 9999 hu xa xn xc
            simp only [execOp, ho, e1, hy, hg, Sem.run_bind, Sem.run_pure, Result.andThen_ok]
            subst hop
            cases neg <;> simp [binOp, heq]
          cases hq : opd fr x <;> rw [hq] at hv hX <;> simp only [veqN, vnull] at hv <;> try (cases hv; done)
          · cases hv; exact key _ _ _ _ hX.snil rfl
          · cases hv
            obtain ⟨r, oo, cc, cap, hρ, h2, h3, hx3⟩ := hX.sl
            exact key _ _ _ _ hx3 rfl
          · cases hv
            obtain ⟨bb, cap, hx3⟩ := hX.sempty
            exact key _ _ _ _ hx3 rfl
        split at hsl
        · cases hsl; exact nilc false rfl rfl
        · cases hsl; exact nilc true rfl rfl
        · cases hsl
      rename_i hnt
      split at hsl
      · rename_i hif
        simp only [Bool.and_eq_true] at hif
        obtain ⟨hif, hnc⟩ := hif
        have hu : ∃ e, P.underlying t = some (.interface e) := by
          unfold ifcT at hif
          split at hif
          · rename_i e he; exact ⟨e, he⟩
          · cases hif
        obtain ⟨e, hu⟩ := hu
        obtain ⟨hyo, hy⟩ : Y = .const .nilIface ∧ a.eval Y = .nilIface := by
          unfold isNilI at hnc
          split at hnc
          · exact ⟨rfl, rfl⟩
          · cases hnc
        have nilI : ∀ neg, vo = .x (.inilT neg) [x] → op = (if neg then .neq else .eql) → OpSim P lim tg A ρ lam L H w (execOp a.eval o) v L' H' := by
          intro neg hvo hop
          subst hvo
          simp only [evOp, opds, evX] at he
          refine x_case he (fun hv hl => ?_)
          subst hl
          obtain ⟨hv, rfl⟩ := optH_some' hv
          have key : ∀ (xv : Value) (b : Bool), a.eval X = xv → eqGuard op t X Y xv .nilIface = pure () → (Op.equal t xv .nilIface).run P w = .ok b w → (xv = .nilIface ∨ ∃ te pe, xv = .iface te pe) → (execOp a.eval o).run P w = .ok (.value (.bool (if neg then !b else b))) w := by
            intro xv b e1 hg heq hnb
            simp only [execOp, ho, e1, hy, hg, Sem.run_bind, Sem.run_pure, Result.andThen_ok]
            subst hop
            rcases hnb with rfl | ⟨te, pe, rfl⟩ <;> cases neg <;> simp [binOp, heq]
          cases hq : opd fr x <;> rw [hq] at hv hX <;> simp only [vinilT] at hv <;> try (cases hv; done)
          · cases hv
            obtain ⟨te, v', e3⟩ : ∃ te v', a.eval X = .iface te v' := by obtain ⟨v', h⟩ := hX.iface; exact ⟨_, v', h⟩
            have hg : eqGuard op t X Y (.iface te v') .nilIface = pure () := by subst hop; cases neg <;> rfl
            have := key _ false e3 hg (eq_ifc 9999 hu te v') (.inr ⟨_, _, rfl⟩)
            refine OpSim.pure (x := .bool neg) ?_ (.vr (.bool _)) hH hL
            cases neg <;> exact this
          · cases hv
            have hg : eqGuard op t X Y .nilIface .nilIface = pure () := by subst hop; subst hyo; cases neg <;> simp [eqGuard] <;> rfl
            have := key _ true hX.inil hg (eq_inil 9999 hu) (.inl rfl)
            refine OpSim.pure (x := .bool (!neg)) ?_ (.vr (.bool _)) hH hL
            cases neg <;> exact this
        split at hsl
        · cases hsl; exact nilI false rfl rfl
        · cases hsl; exact nilI true rfl rfl
        · cases hsl
      rename_i hnif
      split at hsl
      · rename_i hif
        simp only [Bool.and_eq_true] at hif
        obtain ⟨hif, hnc⟩ := hif
        have hu : ∃ e, P.underlying t = some (.pointer e) := by
          unfold ptrT at hif
          split at hif
          · rename_i e he; exact ⟨e, he⟩
          · cases hif
        obtain ⟨e, hu⟩ := hu
        obtain ⟨hyo, hy⟩ : Y = .const (.pointer none) ∧ a.eval Y = .pointer none := by
          unfold isNilP at hnc
          split at hnc
          · exact ⟨rfl, rfl⟩
          · cases hnc
        have nilP : ∀ neg, vo = .x (.pnilT neg) [x] → op = (if neg then .neq else .eql) → OpSim P lim tg A ρ lam L H w (execOp a.eval o) v L' H' := by
          intro neg hvo hop
          subst hvo
          simp only [evOp, opds, evX] at he
          refine x_case he (fun hv hl => ?_)
          subst hl
          obtain ⟨hv, rfl⟩ := optH_some' hv
          have key : ∀ (xa : Option Addr) (b : Bool), a.eval X = .pointer xa → xa.isNone = b → (execOp a.eval o).run P w = .ok (.value (.bool (if neg then !b else b))) w := by
            intro xa b e1 e2
            have hg : eqGuard op t X Y (.pointer xa) (.pointer none) = pure () := by subst hop; cases neg <;> rfl
            have heq : (Op.equal t (.pointer xa) (.pointer none)).run P w = .ok b w := by
              rw [← e2]; exact eq_pn 9999 hu xa
            simp only [execOp, ho, e1, hy, hg, Sem.run_bind, Sem.run_pure, Result.andThen_ok]
            subst hop
            cases neg <;> simp [binOp, heq]
          cases hq : opd fr x <;> rw [hq] at hv hX <;> simp only [vpnilT] at hv <;> try (cases hv; done)
          · cases hv
            have := key _ true hX.pnil rfl
            refine OpSim.pure (x := .bool (!neg)) ?_ (.vr (.bool _)) hH hL
            cases neg <;> exact this
          · cases hv
            obtain ⟨r, o', c, _, e3⟩ := hX.ptr
            have := key _ false e3 rfl
            refine OpSim.pure (x := .bool neg) ?_ (.vr (.bool _)) hH hL
            cases neg <;> exact this
        split at hsl
        · cases hsl; exact nilP false rfl rfl
        · cases hsl; exact nilP true rfl rfl
        · cases hsl
      rename_i hnpt
      split at hsl
      case h_2 => cases hsl
      rename_i ks hks
      split at hsl
      case isTrue => cases hsl
      rename_i hgt
      have hagg : ∃ fs, P.underlying t = some (.struct fs) ∨ ∃ n e, P.underlying t = some (.array n e) := by
        cases hu : P.underlying t with
        | none => simp [flat, hu] at hks
        | some d =>
          cases d with
          | struct fs => exact ⟨fs, Or.inl rfl⟩
          | array n e => exact ⟨#[], Or.inr ⟨n, e, rfl⟩⟩
          | int k => exact absurd hu (hn1 k)
          | bool => exact absurd hu hn2
          | string => exact absurd hu hn3
          | _ => simp [flat, hu] at hks
      have aggc : ∀ neg, vo = .eqA neg ks x y → op = (if neg then .neq else .eql) → OpSim P lim tg A ρ lam L H w (execOp a.eval o) v L' H' := by
        intro neg hvo hop
        subst hvo
        simp only [evOp] at he
        split at he
        case h_2 => cases he
        rename_i xs ys hp hq
        split at he
        case h_2 => cases he
        rename_i b hb
        simp only [Option.some.injEq, VNext.val.injEq] at he
        obtain ⟨rfl, rfl, rfl⟩ := he
        rw [hp] at hX; rw [hq] at hY
        obtain ⟨C, e1, h1, _⟩ := hX.agg
        obtain ⟨D, e2, h2, _⟩ := hY.agg
        have heq := eq_agg (P := P) (ρ := ρ) (D := 9999) (eqPart_all 19) (by omega) hks hagg h1 h2 hb w
        refine OpSim.pure (x := .bool (if neg then !b else b)) ?_ (.vr (.bool _)) hH hL
        simp only [execOp, ho, e1, e2, Sem.run_bind, run_eqGuard_agg w op t X Y C D (by simpa using hgt), Result.andThen_ok]
        cases neg <;> subst hop <;> simp only [Bool.false_eq_true, if_false, if_true, run_eql_struct, run_neq_struct, heq, Result.andThen_ok, Sem.run_pure]
      split at hsl
      · cases hsl; exact aggc false rfl rfl
      · cases hsl; exact aggc true rfl rfl
      · cases hsl
  | unOp op t X =>
    simp only [slimOp0, ho, Option.map_eq_some_iff] at hsl
    obtain ⟨x, hx, rfl⟩ := hsl
    simp only [evOp] at he
    refine pure_case hH hL he (fun u hu => ?_)
    have hX := opd_rel hx hF
    cases hq : opd fr x <;> rw [hq] at hu hX <;> simp only [vun] at hu <;> try (cases hu; done)
    · cases op <;> simp only at hu <;> first | (cases hu; done) | skip
      cases hu
      exact ⟨_, by simp only [execOp, ho, hX.bool, Op.unary]; rfl, .vr (.bool _)⟩
    · cases op <;> simp only at hu <;> first | (cases hu; done) | skip
      cases hu
      exact ⟨_, by simp only [execOp, ho, hX.int, Op.unary]; rfl, .vr (.int _ _)⟩
  | convert src dst X =>
    simp only [slimOp0, ho] at hsl
    split at hsl
    · rename_i k1 k x h1 h2 hx
      cases hsl
      simp only [evOp] at he
      refine pure_case hH hL he (fun u hu => ?_)
      have hX := opd_rel hx hF
      cases hq : opd fr x <;> rw [hq] at hu hX <;> simp only [vconv] at hu <;> try (cases hu; done)
      cases hu
      refine ⟨_, ?_, .vr (.int _ _)⟩
      simp [execOp, ho, hX.int, convert, run_underlying h1, run_underlying h2, Conv.intToInt]
    · rename_i e x h1 h2 hx
      split at hsl
      case h_2 => cases hsl
      rename_i he8
      cases hsl
      simp only [evOp] at he
      split at he
      case h_2 => cases he
      rename_i s hs
      cases he
      have hX := opd_rel hx hF
      rw [hs] at hX
      have hrun := run_bytes_of_string (P := P) w src dst e s h1 h2 he8
      have hcap : s.size ≤ grownCap w s.size 0 e := by
        simp only [grownCap, Question.cut]; omega
      have hsz : (bytesRow s (grownCap w s.size 0 e)).size = grownCap w s.size 0 e := by
        simp only [bytesRow, Array.size_append, Array.size_map, Array.size_replicate]
        have : s.data.size = s.size := rfl
        omega
      obtain ⟨f2, f3, f4⟩ := alloc_facts3 w.drew (bytesRow s (grownCap w s.size 0 e)) e ((bytesRow s (grownCap w s.size 0 e)).size, (bytesRow s (grownCap w s.size 0 e)).size + 1)
      have hl : (vbytesL s).length = s.size := by simp [vbytesL]
      refine OpSim.pushF (w' := w.drew.alloc (.cells (bytesRow s (grownCap w s.size 0 e)) e ((bytesRow s (grownCap w s.size 0 e)).size, (bytesRow s (grownCap w s.size 0 e)).size + 1))) (c := grownCap w s.size 0 e) hH hL (by simpa using hfR) (by simp only [execOp, ho, hX.str]; rw [Sem.run_bind, hrun]; rfl) ⟨rfl, rfl, rfl⟩ f2 f3 f4 (by omega) (by omega) ?_ (fun j hj h => by have := h.1; simp only at this; omega) (vr_newsl hcap (by omega))
      intro i hi
      rw [hl] at hi
      have hi' : i < s.data.size := hi
      have e1 : (vbytesL s).getD i dv = .int .u8 (s.data[i].toNat : Int) := by
        have e0 : s.data[i]? = some s.data[i] := Array.getElem?_eq_getElem hi'
        simp [vbytesL, List.getD_eq_getElem?_getD, e0]
      have e2 : (bytesRow s (grownCap w s.size 0 e)).getD (0 + i) ux = .int .u8 (s.data[i].toNat : Int) := by
        rw [Nat.zero_add, Array.getD_eq_getD_getElem?, bytesRow, Array.getElem?_append_left (by simpa using hi')]
        have e0 : s.data[i]? = some s.data[i] := Array.getElem?_eq_getElem hi'
        simp [e0]
      rw [e1, e2]
      exact ⟨.int _ _, rfl⟩
    · rename_i e x h1 h2 hx
      split at hsl
      · rename_i he8
        cases hsl
        simp only [evOp, opds, evX] at he
        refine x_case he (fun hu hl => ?_)
        subst hl
        obtain ⟨hu, rfl⟩ := optH_some' hu
        obtain ⟨y, hy, hvy⟩ := sim_strB (P := P) h1 h2 he8 (opd_rel hx hF) hH hu
        exact OpSim.pure (by simp only [execOp, ho, Sem.run_bind, hy]; rfl) (.vr hvy) hH hL
      · rename_i he8
        cases hsl
        simp only [evOp, opds, evX] at he
        refine x_case he (fun hu hl => ?_)
        subst hl
        obtain ⟨hu, rfl⟩ := optH_some' hu
        obtain ⟨y, hy, hvy⟩ := sim_strRs (P := P) h1 h2 he8 (opd_rel hx hF) hH hu
        exact OpSim.pure (by simp only [execOp, ho, Sem.run_bind, hy]; rfl) (.vr hvy) hH hL
      · cases hsl
    · rename_i k x h1 h2 hx
      cases hsl
      simp only [evOp, opds, evX] at he
      refine x_case he (fun hu hl => ?_)
      subst hl
      obtain ⟨hu, rfl⟩ := optH_some' hu
      have hX := opd_rel hx hF
      cases hq : opd fr x <;> rw [hq] at hu hX <;> simp only [vstrR] at hu <;> try (cases hu; done)
      cases hu
      refine OpSim.pure ?_ (.vr (.str _)) hH hL
      simp [execOp, ho, hX.int, convert, run_underlying h1, run_underlying h2, Conv.intToString]
    · cases hsl
  | slice t X lo hi mx =>
    cases mx with
    | some Mx =>
      simp only [slimOp0, ho] at hsl
      split at hsl
      case h_2 => cases hsl
      rename_i e x lo' hi' mx' hu hx hlo hhi hmx
      simp only [Option.map_eq_some_iff] at hsl
      obtain ⟨sz, hsz, rfl⟩ := hsl
      simp only [evOp] at he
      refine pure_case hH hL he (fun u hv => ?_)
      have hX := opd_rel hx hF
      unfold vslS3 at hv
      split at hv
      case h_3 => cases hv
      · rename_i b off len sz' m hq hm
        rw [hq] at hX
        split at hv
        case isFalse => cases hv
        rename_i hc
        obtain ⟨hse, hm0, hml⟩ := hc
        subst hse
        split at hv
        · cases hv
        rename_i hiv hhv
        split at hv
        case h_2 => cases hv
        rename_i l h hb
        cases hi with
        | none => simp [slimOpdO] at hhi; subst hhi; simp [opdO] at hhv
        | some Hi =>
          simp only [slimOpdO, Option.map_eq_some_iff] at hhi
          obtain ⟨hi2, hhi2, rfl⟩ := hhi
          simp only [opdO, Option.some.injEq] at hhv
          subst hhv
          obtain ⟨r, oo, c, cap, hρ, h2, h3, hxe⟩ := hX.sl
          obtain ⟨b1, b2, hrun⟩ := bounds_rel3 (P := P) (w := w) (isS := true) (len := len) (cap := cap) hlo hhi2 hmx hF hm ⟨hm0, by omega⟩ hb
          have hcap : m.toNat * sz' ≤ cap * sz' := Nat.mul_le_mul_right _ (by omega)
          have hv2 := sliced (sz := sz') (cap := m.toNat) (len := m.toNat) hρ (by omega) (Nat.le_refl _) b1 b2 hv m.toNat rfl
          refine ⟨_, ?_, .vr hv2⟩
          simp only [execOp, ho, Instr.sliceAt, Instr.slice, Sem.run_bind, run_underlying hu, Result.andThen_ok, hxe, Option.map_some, hrun, sizeV_run hsz, Sem.run_pure]
          by_cases e1 : m.toNat = l <;> simp [e1]
      · rename_i m hq hm
        rw [hq] at hX
        split at hv
        case isFalse => cases hv
        rename_i hm0
        subst hm0
        split at hv
        · cases hv
        rename_i hiv hhv
        split at hv
        case h_2 => cases hv
        rename_i lh hb
        cases hv
        obtain ⟨l, h⟩ := lh
        cases hi with
        | none => simp [slimOpdO] at hhi; subst hhi; simp [opdO] at hhv
        | some Hi =>
          simp only [slimOpdO, Option.map_eq_some_iff] at hhi
          obtain ⟨hi2, hhi2, rfl⟩ := hhi
          simp only [opdO, Option.some.injEq] at hhv
          subst hhv
          obtain ⟨b1, b2, hrun⟩ := bounds_rel3 (P := P) (w := w) (isS := true) (len := 0) (cap := 0) hlo hhi2 hmx hF hm ⟨Int.le_refl _, Int.le_refl _⟩ hb
          have hl : l = 0 := by have : (0 : Int).toNat = 0 := rfl; omega
          have hh : h = 0 := by have : (0 : Int).toNat = 0 := rfl; omega
          subst hl hh
          refine ⟨.slice none 0 0, ?_, .vr .snil⟩
          simp only [execOp, ho, Instr.sliceAt, Instr.slice, Sem.run_bind, run_underlying hu, Result.andThen_ok, hX.snil, Option.map_some, hrun, sizeV_run hsz, if_true, Sem.run_pure, Int.toNat_zero]
    | none =>
      simp only [slimOp0, ho] at hsl
      split at hsl
      · rename_i n e x lo' hi' hu hx hlo hhi
        simp only [Option.map_eq_some_iff] at hsl
        obtain ⟨sz, hsz, rfl⟩ := hsl
        simp only [evOp] at he
        refine pure_case hH hL he (fun u hv => ?_)
        have hX := opd_rel hx hF
        cases hq : opd fr x <;> rw [hq] at hv hX <;> simp only [vslA] at hv <;> try (cases hv; done)
        rename_i b off
        split at hv
        case h_2 => cases hv
        rename_i cs own hbl
        split at hv
        case isFalse => cases hv
        rename_i hroom
        split at hv
        case h_2 => cases hv
        rename_i l h hb
        obtain ⟨r, oo, c, hρ, hxe⟩ := hX.ptr
        obtain ⟨C, el, fz, g1, g2, g3, g4, g5⟩ := hH.row b r oo c cs own hρ hbl
        obtain ⟨b1, b2, hrun⟩ := bounds_rel (P := P) (w := w) (isS := false) (Nat.le_refl n) hlo hhi hF hb
        have hv2 := sliced (sz := sz) (cap := n) hρ (by omega) (Nat.le_refl n) b1 b2 hv n rfl
        refine ⟨_, ?_, .vr hv2⟩
        simp only [execOp, ho, Instr.sliceAt, Sem.run_bind, run_underlying hu, Result.andThen_ok, hxe, Instr.sureAddr, Sem.run_pure, Option.map_none, hrun, sizeV_run hsz]
      · rename_i e x lo' hi' hu hx hlo hhi
        split at hsl
        case h_2 => cases hsl
        rename_i sz hsz
        split at hsl
        · cases hsl
          have hX := opd_rel hx hF
          have ex : evX lim H (.slC sz lo'.isSome hi'.isSome) (opds fr (x :: (optL lo' ++ optL hi'))) = optH H (vslC sz (opd fr x) (opdO fr lo') (opdO fr hi')) := by
            cases lo' <;> cases hi' <;> rfl
          simp only [evOp, ex] at he
          cases hvv : vslC sz (opd fr x) (opdO fr lo') (opdO fr hi') with
          | none => rw [hvv] at he; simp [optH] at he
          | some u =>
            rw [hvv] at he
            simp only [optH, Option.some.injEq, VNext.val.injEq] at he
            obtain ⟨rfl, rfl, rfl⟩ := he
            obtain ⟨y, h1, h2⟩ := slC_rel (P := P) (w := w) hu hsz hX hlo hhi hF hvv
            refine OpSim.pure (x := y) ?_ (.vr h2) hH hL
            simp only [execOp, ho, Option.map_none, Sem.run_bind, h1, Result.andThen_ok, Sem.run_pure]
        cases hsl
        simp only [evOp] at he
        refine pure_case hH hL he (fun u hv => ?_)
        have hX := opd_rel hx hF
        cases hq : opd fr x <;> rw [hq] at hv hX <;> simp only [vslS] at hv <;> try (cases hv; done)
        · split at hv
          case h_2 => cases hv
          rename_i lh hb
          cases hv
          obtain ⟨l, h⟩ := lh
          obtain ⟨b1, b2, hrun⟩ := bounds_rel (P := P) (w := w) (isS := true) (Nat.le_refl 0) hlo hhi hF hb
          have hl : l = 0 := by omega
          have hh : h = 0 := by omega
          subst hl hh
          refine ⟨.slice none 0 0, ?_, .vr .snil⟩
          simp only [execOp, ho, Instr.sliceAt, Instr.slice, Sem.run_bind, run_underlying hu, Result.andThen_ok, hX.snil, Option.map_none, hrun, sizeV_run hsz, if_true, Sem.run_pure]
        · rename_i b off len sz'
          split at hv
          case isFalse => cases hv
          rename_i hse
          subst hse
          split at hv
          case h_2 => cases hv
          rename_i l h hb
          obtain ⟨r, oo, c, cap, hρ, h2, h3, hxe⟩ := hX.sl
          obtain ⟨b1, b2, hrun⟩ := bounds_rel (P := P) (w := w) (isS := true) h2 hlo hhi hF hb
          have hv2 := sliced (sz := sz') (cap := cap) hρ h3 h2 b1 b2 hv cap rfl
          refine ⟨_, ?_, .vr hv2⟩
          simp only [execOp, ho, Instr.sliceAt, Instr.slice, Sem.run_bind, run_underlying hu, Result.andThen_ok, hxe, Option.map_none, Option.map_some, hrun, sizeV_run hsz, Sem.run_pure]
          by_cases e1 : cap = l <;> simp [e1]
      · rename_i x lo' hi' hu hx hlo hhi
        cases hsl
        simp only [evOp] at he
        refine pure_case hH hL he (fun u hv => ?_)
        have hX := opd_rel hx hF
        cases hq : opd fr x <;> rw [hq] at hv hX <;> simp only [vslT] at hv <;> try (cases hv; done)
        split at hv
        case h_2 => cases hv
        rename_i l h hb
        cases hv
        obtain ⟨b1, b2, hrun⟩ := bounds_rel (P := P) (w := w) (isS := false) (Nat.le_refl _) hlo hhi hF hb
        refine ⟨_, ?_, .vr (.str _)⟩
        simp only [execOp, ho, Instr.sliceAt, Instr.slice, Sem.run_bind, run_underlying hu, Result.andThen_ok, hX.str, Option.map_none, Option.isSome_none, Bool.false_eq_true, if_false, hrun, Sem.run_pure]
      · cases hsl
  | fieldAddr t X f =>
    simp only [slimOp0, ho] at hsl
    split at hsl
    case h_2 => cases hsl
    rename_i fields x hu hx
    split at hsl
    case h_2 => cases hsl
    rename_i fd hfd
    split at hsl
    case h_2 => cases hsl
    rename_i s hs
    split at hsl
    case isTrue => cases hsl
    rename_i hs0
    cases hsl
    simp only [evOp] at he
    refine pure_case hH hL he (fun u hv => ?_)
    obtain ⟨ad, e1, e2, h3⟩ := vfaddr_rel hv (opd_rel hx hF)
    refine ⟨_, ?_, h3⟩
    obtain ⟨blk, off, spot⟩ := ad
    simp only at e2; subst e2
    simp [execOp, ho, Instr.fieldAt, run_underlying hu, hfd, e1, Instr.sureAddr, fieldPlace, sizeV_run hs, hs0, addr_add]
  | field t X f =>
    simp only [slimOp0, ho] at hsl
    split at hsl
    case h_2 => cases hsl
    rename_i fields x hu hx
    split at hsl
    case h_2 => cases hsl
    rename_i fd hfd
    simp only [Option.map_eq_some_iff] at hsl
    obtain ⟨g, hg, rfl⟩ := hsl
    simp only [evOp] at he
    refine pure_case hH hL he (fun u hv => ?_)
    obtain ⟨C, y, e1, h2, h3⟩ := vfield_rel (w := w) hg hv (opd_rel hx hF)
    exact ⟨y, by simp [execOp, ho, Instr.field, run_underlying hu, hfd, e1, asAgg, h2], .vr h3⟩
  | indexAddr t X I =>
    simp only [slimOp0, ho] at hsl
    split at hsl
    · rename_i n e x i hu hx hi
      simp only [Option.map_eq_some_iff] at hsl
      obtain ⟨sz, hsz, rfl⟩ := hsl
      simp only [evOp] at he
      refine pure_case hH hL he (fun u hv => ?_)
      simp only [viaddrA] at hv
      split at hv
      case h_2 => cases hv
      rename_i k hk
      split at hv
      case isFalse => cases hv
      rename_i hb
      obtain ⟨kk, hik⟩ := vint_rel hk (opd_rel hi hF)
      obtain ⟨ad, e1, e2, h3⟩ := vfaddr_rel hv (opd_rel hx hF)
      refine ⟨_, ?_, h3⟩
      obtain ⟨blk, off, spot⟩ := ad
      simp only at e2; subst e2
      simp [execOp, ho, Instr.indexAt, run_underlying hu, e1, Instr.sureAddr, asIntOf, hik, hb, sizeV_run hsz, addr_add]
    · rename_i e x i hu hx hi
      simp only [Option.map_eq_some_iff] at hsl
      obtain ⟨sz, hsz, rfl⟩ := hsl
      simp only [evOp] at he
      refine pure_case hH hL he (fun u hv => ?_)
      have hX := opd_rel hx hF
      unfold viaddrS at hv
      split at hv
      case h_2 => cases hv
      rename_i b off len sz' k hxe hk
      split at hv
      case isFalse => cases hv
      rename_i hse
      subst hse
      split at hv
      case isFalse => cases hv
      rename_i hb
      cases hv
      rw [hxe] at hX
      obtain ⟨r, oo, c, cap, hρ, h2, h3, hx3⟩ := hX.sl
      obtain ⟨kk, hik⟩ := vint_rel hk (opd_rel hi hF)
      refine ⟨.pointer (some ⟨r, oo + (off + k.toNat * sz'), none⟩), ?_, .vr (.ptr hρ)⟩
      simp [execOp, ho, Instr.indexAt, run_underlying hu, hx3, asIntOf, hik, hb, sizeV_run hsz, addr_add, Nat.add_assoc]
    · cases hsl
  | index t X I =>
    simp only [slimOp0, ho] at hsl
    split at hsl
    · rename_i n e x i hu hx hi
      split at hsl
      case h_2 => cases hsl
      rename_i sz g hsz hg
      cases hsl
      simp only [evOp] at he
      refine pure_case hH hL he (fun u hv => ?_)
      simp only [vidxA] at hv
      split at hv
      case h_2 => cases hv
      rename_i k hk
      split at hv
      case isFalse => cases hv
      rename_i hb
      obtain ⟨kk, hik⟩ := vint_rel hk (opd_rel hi hF)
      obtain ⟨C, y, e1, h2, h3⟩ := vfield_rel (w := w) hg hv (opd_rel hx hF)
      exact ⟨y, by simp [execOp, ho, Instr.index, run_underlying hu, e1, asIntOf, hik, hb, sizeV_run hsz, h2], .vr h3⟩
    · rename_i x i hu hx hi
      cases hsl
      simp only [evOp] at he
      refine pure_case hH hL he (fun u hv => ?_)
      have hX := opd_rel hx hF
      unfold vidxT at hv
      split at hv
      case h_2 => cases hv
      rename_i st k hxe hk
      split at hv
      case isFalse => cases hv
      rename_i hb
      cases hv
      rw [hxe] at hX
      obtain ⟨kk, hik⟩ := vint_rel hk (opd_rel hi hF)
      have hlt : k.toNat < st.data.size := by have : st.size = st.data.size := rfl; omega
      refine ⟨_, ?_, .vr (.int _ _)⟩
      have hge : st[k.toNat]? = some (st.data.getD k.toNat 0) := by
        show st.data[k.toNat]? = some (st.data.getD k.toNat 0)
        rw [Array.getD_eq_getD_getElem?, Array.getElem?_eq_getElem hlt]; rfl
      simp [execOp, ho, Instr.index, run_underlying hu, hX.str, asIntOf, hik, hb.1, hge]
    · cases hsl
  | extract X i =>
    simp only [slimOp0, ho, Option.map_eq_some_iff] at hsl
    obtain ⟨x, hx, rfl⟩ := hsl
    simp only [evOp] at he
    refine pure_case hH hL he (fun u hv => ?_)
    have hX := opd_rel hx hF
    cases hq : opd fr x <;> rw [hq] at hv hX <;> simp only [vext] at hv <;> try (cases hv; done)
    rename_i vs
    obtain ⟨C, e1, h2, h3⟩ := hX.tup
    have hlt := (List.getElem?_eq_some_iff.1 hv).1
    have h4 := h3 i hlt
    refine ⟨C.getD i ux, ?_, ?_⟩
    · have : i < C.size := by omega
      simp [execOp, ho, e1, Instr.extract, this]
    · have e2 : (List.getD vs i dv) = u := by rw [List.getD_eq_getElem?_getD, hv]; rfl
      rw [e2] at h4
      exact .vr h4
  | call c =>
    simp only [slimOp0, ho] at hsl
    cases hc : c.callee with
    | value f =>
      rw [hc] at hsl
      cases f with
      | func f =>
        simp only at hsl
        split at hsl
        · simp only [Option.map_eq_some_iff] at hsl
          obtain ⟨xs, _, rfl⟩ := hsl
          simp only [evOp] at he
          split at he <;> cases he
        · cases hsl
      | tmp t =>
        simp only [Option.map_eq_some_iff] at hsl
        obtain ⟨xs, _, rfl⟩ := hsl
        simp only [evOp] at he
        split at he
        · split at he <;> cases he
        · cases he
      | _ => simp at hsl
    | invoke r m => rw [hc] at hsl; simp at hsl
    | builtin b =>
      rw [hc] at hsl
      simp only at hsl
      have hexec : (execOp a.eval o) = (builtin b c.argTypes o.type (c.args.map fun | .const _ => true | _ => false) (c.args.map a.eval)) := by
        simp only [execOp, ho, resolve, hc]
        rfl
      have hargs : ∀ xs, slimOpds c.args.toList = some xs → ∃ Xs, c.args.toList = Xs ∧ slimOpds Xs = some xs ∧ (c.args.map a.eval) = (Xs.map a.eval).toArray := by
        intro xs h
        exact ⟨_, rfl, h, by apply Array.ext'; simp⟩
      have two : ∀ x y, slimOpds c.args.toList = some [x, y] → ∃ X Y, slimOpd X = some x ∧ slimOpd Y = some y ∧ c.args.map a.eval = #[a.eval X, a.eval Y] := by
        intro x y h
        obtain ⟨Xs, e1, h1, e2⟩ := hargs _ h
        rw [e2]
        match Xs, h1 with
        | [], h1 => simp [slimOpds] at h1
        | [X], h1 =>
          simp only [slimOpds] at h1
          split at h1
          · rename_i p q hp hq
            cases hq; simp at h1
          · cases h1
        | [X, Y], h1 =>
          simp only [slimOpds] at h1
          split at h1
          · rename_i p q hp hq
            split at hq
            · rename_i p2 q2 hp2 hq2
              cases hq2; cases hq; cases h1
              exact ⟨X, Y, hp, hp2, rfl⟩
            · cases hq
          · cases h1
        | X :: Y :: Z :: r, h1 =>
          simp only [slimOpds] at h1
          split at h1
          · rename_i p q hp hq
            split at hq
            · rename_i p2 q2 hp2 hq2
              cases hq
              split at hq2
              · cases hq2; cases h1
              · cases hq2
            · cases hq
          · cases h1
      have three : ∀ x y z, slimOpds c.args.toList = some [x, y, z] → ∃ X Y Z, slimOpd X = some x ∧ slimOpd Y = some y ∧ slimOpd Z = some z ∧ c.args.map a.eval = #[a.eval X, a.eval Y, a.eval Z] := by
        intro x y z h
        obtain ⟨Xs, e1, h1, e2⟩ := hargs _ h
        rw [e2]
        have cons : ∀ {Xs : List Operand} {x : Opd} {xs : List Opd}, slimOpds Xs = some (x :: xs) → ∃ X Ys, Xs = X :: Ys ∧ slimOpd X = some x ∧ slimOpds Ys = some xs := by
          intro Xs x xs h
          cases Xs with
          | nil => simp [slimOpds] at h
          | cons X Ys =>
            simp only [slimOpds] at h
            split at h
            · rename_i p q hp hq; cases h; exact ⟨X, Ys, rfl, hp, hq⟩
            · cases h
        obtain ⟨X, Ys, rfl, hX, h2⟩ := cons h1
        obtain ⟨Y, Zs, rfl, hY, h3⟩ := cons h2
        obtain ⟨Z, Ws, rfl, hZ, h4⟩ := cons h3
        cases Ws with
        | nil => exact ⟨X, Y, Z, hX, hY, hZ, rfl⟩
        | cons W Ws =>
          simp only [slimOpds] at h4
          split at h4 <;> cases h4
      have four : ∀ x y z u, slimOpds c.args.toList = some [x, y, z, u] → ∃ X Y Z U, slimOpd X = some x ∧ slimOpd Y = some y ∧ slimOpd Z = some z ∧ slimOpd U = some u ∧ c.args.map a.eval = #[a.eval X, a.eval Y, a.eval Z, a.eval U] := by
        intro x y z u h
        obtain ⟨Xs, e1, h1, e2⟩ := hargs _ h
        rw [e2]
        have cons : ∀ {Xs : List Operand} {x : Opd} {xs : List Opd}, slimOpds Xs = some (x :: xs) → ∃ X Ys, Xs = X :: Ys ∧ slimOpd X = some x ∧ slimOpds Ys = some xs := by
          intro Xs x xs h
          cases Xs with
          | nil => simp [slimOpds] at h
          | cons X Ys =>
            simp only [slimOpds] at h
            split at h
            · rename_i p q hp hq; cases h; exact ⟨X, Ys, rfl, hp, hq⟩
            · cases h
        obtain ⟨X, Ys, rfl, hX, h2⟩ := cons h1
        obtain ⟨Y, Zs, rfl, hY, h3⟩ := cons h2
        obtain ⟨Z, Us, rfl, hZ, h4⟩ := cons h3
        obtain ⟨U, Ws, rfl, hU, h5⟩ := cons h4
        cases Ws with
        | nil => exact ⟨X, Y, Z, U, hX, hY, hZ, hU, rfl⟩
        | cons W Ws =>
          simp only [slimOpds] at h5
          split at h5 <;> cases h5
      have one : ∀ x, slimOpds c.args.toList = some [x] → ∃ X, slimOpd X = some x ∧ c.args.map a.eval = #[a.eval X] := by
        intro x h
        obtain ⟨Xs, e1, h1, e2⟩ := hargs _ h
        rw [e2]
        match Xs, h1 with
        | [], h1 => simp [slimOpds] at h1
        | [X], h1 =>
          simp only [slimOpds] at h1
          split at h1
          · rename_i p q hp hq
            cases hq; cases h1
            exact ⟨X, hp, rfl⟩
          · cases h1
        | X :: Y :: r, h1 =>
          simp only [slimOpds] at h1
          split at h1
          · rename_i p q hp hq
            split at hq
            · cases hq; cases h1
            · cases hq
          · cases h1
      have types : ∀ (l : List TypeId), c.argTypes.toList = l → c.argTypes = l.toArray := fun l h => by rw [← h]
      cases b with
      | len =>
        simp only [slimBuiltin] at hsl
        split at hsl
        · rename_i x0 t0 ts0 h1 h2
          obtain ⟨X, hx, e1⟩ := one _ h1
          have hget : c.argTypes[0]? = some t0 := by rw [← Array.getElem?_toList, h2]; rfl
          have hbi : (execOp a.eval o) = (do pure (.value (← Builtin.len_ c.argTypes o.type #[a.eval X]))) := by rw [hexec, e1]; rfl
          have hX := opd_rel hx hF
          split at hsl
          · rename_i e hu
            cases hsl
            simp only [evOp] at he
            refine pure_case hH hL he (fun u hv => ?_)
            cases hq : opd fr _ <;> rw [hq] at hv hX <;> simp only [vlenS] at hv <;> try (cases hv; done)
            · cases hv; exact ⟨_, by rw [hbi]; simp [Builtin.len_, hget, run_underlying hu, hX.snil, goInt], .vr (.int _ _)⟩
            · cases hv
              obtain ⟨r, oo, cc, cap, hρ, h2, h3, hx3⟩ := hX.sl
              exact ⟨_, by rw [hbi]; simp [Builtin.len_, hget, run_underlying hu, hx3, goInt], .vr (.int _ _)⟩
            · cases hv
              obtain ⟨bb, cap, hx3⟩ := hX.sempty
              exact ⟨_, by rw [hbi]; simp [Builtin.len_, hget, run_underlying hu, hx3, goInt], .vr (.int _ _)⟩
            · cases hv
              obtain ⟨r, oo, cc, cap, hρ, h2, h3, h4, hx3⟩ := hX.slc
              exact ⟨_, by rw [hbi]; simp [Builtin.len_, hget, run_underlying hu, hx3, goInt], .vr (.int _ _)⟩
            · cases hv
              obtain ⟨bb, hx3⟩ := hX.szero
              exact ⟨_, by rw [hbi]; simp [Builtin.len_, hget, run_underlying hu, hx3, goInt], .vr (.int _ _)⟩
          · rename_i hu
            cases hsl
            simp only [evOp] at he
            refine pure_case hH hL he (fun u hv => ?_)
            cases hq : opd fr _ <;> rw [hq] at hv hX <;> simp only [vlenT] at hv <;> try (cases hv; done)
            cases hv
            exact ⟨_, by rw [hbi]; simp [Builtin.len_, hget, run_underlying hu, hX.str, goInt], .vr (.int _ _)⟩
          · rename_i n e hu
            cases hsl
            simp only [evOp, Option.some.injEq, VNext.val.injEq] at he
            obtain ⟨rfl, rfl, rfl⟩ := he
            exact OpSim.pure (x := .int .i64 n) (by rw [hbi]; simp [Builtin.len_, hget, run_underlying hu, goInt]) (.vr (.int _ _)) hH hL
          · rename_i kt et hu
            cases hsl
            simp only [evOp, opds, evX] at he
            cases hq : opd fr _ <;> rw [hq] at he hX <;> simp only [vlenM, optH] at he <;> try (cases he; done)
            rename_i b
            cases hb : H[b]? with
            | none => rw [hb] at he; simp at he
            | some blk =>
              rw [hb] at he
              cases blk <;> simp only at he <;> try (cases he; done)
              rename_i es
              simp only [Option.some.injEq, VNext.val.injEq] at he
              obtain ⟨rfl, rfl, rfl⟩ := he
              obtain ⟨r, oo, cc, hρ, hx3⟩ := hX.mp
              obtain ⟨es', clk, hw, hent⟩ := hH.mp.entM b r oo cc es hρ hb
              have hlen : ∀ {es : List (V × V)} {es' : List MapEntry}, EntR ρ es es' → es.length = es'.length := by
                intro es es' h
                induction h with
                | nil => rfl
                | cons _ _ _ _ _ ih => simp [ih]
              have hl := hlen hent.ent
              refine OpSim.pure (x := .int .i64 es.length) ?_ (.vr (.int _ _)) hH hL
              rw [hbi, hx3, hl]
              simp [Builtin.len_, hget, run_underlying hu, goInt, run_getObjM hw]
          · cases hsl
        · cases hsl
      | append =>
        simp only [slimBuiltin] at hsl
        split at hsl
        · rename_i x0 y0 st xt rest h1 h2
          obtain ⟨X, Y, hx, hy, e1⟩ := two _ _ h1
          split at hsl
          case h_3 => cases hsl
          case h_2 =>
            rename_i e ik hu1 hu2
            split at hsl
            case h_2 => cases hsl
            rename_i ii z hi hzV
            split at hsl
            case isFalse => cases hsl
            rename_i hcond
            obtain ⟨_, hb, hzs⟩ := hcond
            cases hsl
            simp only [Option.map_eq_some_iff] at hzs
            obtain ⟨zv, hzv, hzs⟩ := hzs
            have hbi : (execOp a.eval o) = (do pure (.value (← Builtin.append_ c.argTypes o.type #[a.eval X, a.eval Y]))) := by rw [hexec, e1]; rfl
            have hap : Builtin.append_ c.argTypes o.type #[a.eval X, a.eval Y] = Builtin.append_ #[st, xt] o.type #[a.eval X, a.eval Y] := by
              have g0 : c.argTypes[0]? = some st := by rw [← Array.getElem?_toList, h2]; rfl
              have g1 : c.argTypes[1]? = some xt := by rw [← Array.getElem?_toList, h2]; rfl
              simp [Builtin.append_, g0, g1]
            simp only [evOp, opds, evX] at he
            split at he
            case h_2 => cases he
            rename_i v1 H1 happ
            simp only [Option.some.injEq, VNext.val.injEq] at he
            obtain ⟨rfl, rfl, rfl⟩ := he
            exact sim_apz (st := st) (it := xt) (ty := o.type) hu1 hu2 hi hzv hzs hb hzV (opd_rel hx hF) (opd_rel hy hF) (by rw [hbi, hap]; simp) hH hL happ hfR
          rename_i e e2 hu1 hu2
          split at hsl
          case h_2 => cases hsl
          rename_i ii hi
          split at hsl
          case isFalse => cases hsl
          rename_i hcond
          obtain ⟨hz, hb, hzs⟩ := hcond
          obtain ⟨zv, hzv⟩ := Option.isSome_iff_exists.1 hz
          rw [hzv] at hzs
          have hbi : (execOp a.eval o) = (do pure (.value (← Builtin.append_ c.argTypes o.type #[a.eval X, a.eval Y]))) := by rw [hexec, e1]; rfl
          have hap : Builtin.append_ c.argTypes o.type #[a.eval X, a.eval Y] = Builtin.append_ #[st, xt] o.type #[a.eval X, a.eval Y] := by
            have g0 : c.argTypes[0]? = some st := by rw [← Array.getElem?_toList, h2]; rfl
            have g1 : c.argTypes[1]? = some xt := by rw [← Array.getElem?_toList, h2]; rfl
            simp [Builtin.append_, g0, g1]
          have hrun : (execOp a.eval o).run P w = ((Builtin.append_ #[st, xt] o.type #[a.eval X, a.eval Y]).run P w).andThen fun v w => .ok (.value v) w := by
            rw [hbi, hap]; simp
          split at hsl
          · cases hsl
            simp only [evOp, opds, evX] at he
            split at he
            case h_2 => cases he
            rename_i v1 H1 happ
            simp only [Option.some.injEq, VNext.val.injEq] at he
            obtain ⟨rfl, rfl, rfl⟩ := he
            exact sim_ap0 (st := st) (xt := xt) (ty := o.type) hu1 hu2 hi hzv (by simpa using hzs) hb (opd_rel hx hF) (opd_rel hy hF) hrun hH hL happ hfR
          split at hsl
          · cases hsl
            simp only [evOp, opds, evX] at he
            split at he
            case h_2 => cases he
            rename_i v1 H1 happ
            simp only [Option.some.injEq, VNext.val.injEq] at he
            obtain ⟨rfl, rfl, rfl⟩ := he
            exact sim_apc (st := st) (xt := xt) (ty := o.type) hu1 hu2 hi hzv (by simpa using hzs) hb (opd_rel hx hF) (opd_rel hy hF) hrun hH hL happ hfR
          cases hsl
          simp only [evOp] at he
          split at he
          case h_2 => cases he
          rename_i v1 H1 happ
          simp only [Option.some.injEq, VNext.val.injEq] at he
          obtain ⟨rfl, rfl, rfl⟩ := he
          exact sim_append (st := st) (xt := xt) (ty := o.type) hu1 hu2 hi hzv (by simpa using hzs) hb (opd_rel hx hF) (opd_rel hy hF) hrun hH hL happ hfR
        · cases hsl
      | cap =>
        simp only [slimBuiltin] at hsl
        split at hsl
        · rename_i x0 t0 ts0 h1 h2
          obtain ⟨X, hx, e1⟩ := one _ h1
          have hget : c.argTypes[0]? = some t0 := by rw [← Array.getElem?_toList, h2]; rfl
          have hbi : (execOp a.eval o) = (do pure (.value (← Builtin.cap_ c.argTypes o.type #[a.eval X]))) := by rw [hexec, e1]; rfl
          split at hsl
          · rename_i e hu
            split at hsl
            case isFalse => cases hsl
            cases hsl
            have hX := opd_rel hx hF
            simp only [evOp, opds, evX] at he
            cases hq : opd fr _ <;> rw [hq] at he hX <;> simp only [vcapN, optH] at he <;> try (cases he; done)
            simp only [Option.some.injEq, VNext.val.injEq] at he
            obtain ⟨rfl, rfl, rfl⟩ := he
            exact OpSim.pure (x := .int .i64 0) (by rw [hbi]; simp [Builtin.cap_, hget, run_underlying hu, hX.snil, goInt]) (.vr (.int _ _)) hH hL
          · cases hsl
        · cases hsl
      | copy =>
        simp only [slimBuiltin] at hsl
        split at hsl
        · rename_i x0 y0 st rest h1 h2
          obtain ⟨X, Y, hx, hy, e1⟩ := two _ _ h1
          split at hsl
          case h_2 => cases hsl
          rename_i e hu1
          simp only [Option.map_eq_some_iff] at hsl
          obtain ⟨sz, hsz, rfl⟩ := hsl
          simp only [evOp] at he
          split at he
          case h_2 => cases he
          rename_i v1 H1 happ
          simp only [Option.some.injEq, VNext.val.injEq] at he
          obtain ⟨rfl, rfl, rfl⟩ := he
          refine sim_copy (dt := st) (xt := st) (ty := o.type) hu1 hsz (opd_rel hx hF) (opd_rel hy hF) ?_ hH hL happ
          have hbi : (execOp a.eval o) = (do pure (.value (← Builtin.copy_ c.argTypes o.type #[a.eval X, a.eval Y]))) := by rw [hexec, e1]; rfl
          have hap : Builtin.copy_ c.argTypes o.type #[a.eval X, a.eval Y] = Builtin.copy_ #[st, st] o.type #[a.eval X, a.eval Y] := by
            have g0 : c.argTypes[0]? = some st := by rw [← Array.getElem?_toList, h2]; rfl
            simp [Builtin.copy_, g0]
          rw [hbi, hap]
          simp
        · cases hsl
      | max =>
        simp only [slimBuiltin] at hsl
        split at hsl
        · rename_i x0 y0 h1
          obtain ⟨X, Y, hx, hy, e1⟩ := two _ _ h1
          cases hsl
          have hX := opd_rel hx hF
          have hY := opd_rel hy hF
          simp only [evOp] at he
          split at he
          case h_2 => cases he
          rename_i k p k2 q hp hq
          simp only [Option.some.injEq, VNext.val.injEq] at he
          obtain ⟨rfl, rfl, rfl⟩ := he
          rw [hp] at hX; rw [hq] at hY
          refine OpSim.pure (x := .int k (if q > p then q else p)) ?_ (.vr (.int _ _)) hH hL
          have hbi : (execOp a.eval o) = (do pure (.value (← Builtin.max_ c.argTypes o.type #[a.eval X, a.eval Y]))) := by rw [hexec, e1]; rfl
          rw [hbi, hX.int, hY.int]
          simp [Builtin.max_, Builtin.max2]
        · rename_i x0 y0 z0 h1
          obtain ⟨X, Y, Z, hx, hy, hz, e1⟩ := three _ _ _ h1
          cases hsl
          have hX := opd_rel hx hF
          have hY := opd_rel hy hF
          have hZ := opd_rel hz hF
          simp only [evOp] at he
          refine pure_case hH hL he (fun u hv => ?_)
          unfold vmax3 at hv
          split at hv
          case h_2 => cases hv
          rename_i k p k2 q k3 m hp hq hm
          cases hv
          rw [hp] at hX; rw [hq] at hY; rw [hm] at hZ
          refine ⟨.int k (max (max p q) m), ?_, .vr (.int _ _)⟩
          have hbi : (execOp a.eval o) = (do pure (.value (← Builtin.max_ c.argTypes o.type #[a.eval X, a.eval Y, a.eval Z]))) := by rw [hexec, e1]; rfl
          rw [hbi, hX.int, hY.int, hZ.int]
          have e2 : (if q > p then q else p) = max p q := by split <;> omega
          have e3 : ∀ p q : Int, (if p < q then q else p) = max p q := fun p q => by split <;> omega
          simp [Builtin.max_, Builtin.max2, e3]
        · rename_i x0 y0 z0 u0 h1
          obtain ⟨X, Y, Z, U, hx, hy, hz, hu, e1⟩ := four _ _ _ _ h1
          cases hsl
          have hX := opd_rel hx hF
          have hY := opd_rel hy hF
          have hZ := opd_rel hz hF
          have hU := opd_rel hu hF
          simp only [evOp, evX, opds] at he
          cases hq : vmaxL [opd fr x0, opd fr y0, opd fr z0, opd fr u0] with
          | none => rw [hq] at he; simp [optH] at he
          | some vv =>
            rw [hq] at he
            simp only [optH, Option.some.injEq, VNext.val.injEq] at he
            obtain ⟨rfl, rfl, rfl⟩ := he
            unfold vmaxL at hq
            split at hq
            case h_2 => cases hq
            rename_i k p k2 q k3 m k4 n hpp
            cases hq
            simp only [List.cons.injEq, and_true] at hpp
            obtain ⟨g1, g2, g3, g4⟩ := hpp
            rw [g1] at hX; rw [g2] at hY; rw [g3] at hZ; rw [g4] at hU
            refine OpSim.pure (x := .int k (max (max (max p q) m) n)) ?_ (.vr (.int _ _)) hH hL
            have hbi : (execOp a.eval o) = (do pure (.value (← Builtin.max_ c.argTypes o.type #[a.eval X, a.eval Y, a.eval Z, a.eval U]))) := by rw [hexec, e1]; rfl
            rw [hbi, hX.int, hY.int, hZ.int, hU.int]
            have e3 : ∀ p q : Int, (if p < q then q else p) = max p q := fun p q => by split <;> omega
            simp [Builtin.max_, Builtin.max2, e3]
        · cases hsl
      | min =>
        simp only [slimBuiltin] at hsl
        split at hsl
        · rename_i x0 y0 h1
          obtain ⟨X, Y, hx, hy, e1⟩ := two _ _ h1
          cases hsl
          have hX := opd_rel hx hF
          have hY := opd_rel hy hF
          simp only [evOp] at he
          split at he
          case h_2 => cases he
          rename_i k p k2 q hp hq
          simp only [Option.some.injEq, VNext.val.injEq] at he
          obtain ⟨rfl, rfl, rfl⟩ := he
          rw [hp] at hX; rw [hq] at hY
          refine OpSim.pure (x := .int k (if q < p then q else p)) ?_ (.vr (.int _ _)) hH hL
          have hbi : (execOp a.eval o) = (do pure (.value (← Builtin.min_ c.argTypes o.type #[a.eval X, a.eval Y]))) := by rw [hexec, e1]; rfl
          rw [hbi, hX.int, hY.int]
          simp [Builtin.min_, Builtin.min2]
        · rename_i x0 y0 z0 h1
          obtain ⟨X, Y, Z, hx, hy, hz, e1⟩ := three _ _ _ h1
          cases hsl
          have hX := opd_rel hx hF
          have hY := opd_rel hy hF
          have hZ := opd_rel hz hF
          simp only [evOp] at he
          refine pure_case hH hL he (fun u hv => ?_)
          unfold vmin3 at hv
          split at hv
          case h_2 => cases hv
          rename_i k p k2 q k3 m hp hq hm
          cases hv
          rw [hp] at hX; rw [hq] at hY; rw [hm] at hZ
          refine ⟨.int k (min (min p q) m), ?_, .vr (.int _ _)⟩
          have hbi : (execOp a.eval o) = (do pure (.value (← Builtin.min_ c.argTypes o.type #[a.eval X, a.eval Y, a.eval Z]))) := by rw [hexec, e1]; rfl
          rw [hbi, hX.int, hY.int, hZ.int]
          have e3 : ∀ p q : Int, (if q < p then q else p) = min p q := fun p q => by split <;> omega
          simp [Builtin.min_, Builtin.min2, e3]
        · cases hsl
      | clear =>
        simp only [slimBuiltin] at hsl
        split at hsl
        · rename_i x0 t0 ts0 h1 h2
          obtain ⟨X, hx, e1⟩ := one _ h1
          have hget : c.argTypes[0]? = some t0 := by rw [← Array.getElem?_toList, h2]; rfl
          have hbi : (execOp a.eval o) = (do pure (.value (← Builtin.clear_ c.argTypes o.type #[a.eval X]))) := by rw [hexec, e1]; rfl
          split at hsl
          case h_2 => cases hsl
          rename_i e hu
          split at hsl
          case h_2 => cases hsl
          rename_i sz z hsz hz
          cases hsl
          simp only [evOp] at he
          split at he
          case h_2 => cases he
          rename_i H1 hcl
          simp only [Option.some.injEq, VNext.val.injEq] at he
          obtain ⟨rfl, rfl, rfl⟩ := he
          exact sim_clr (ty := o.type) hget hu hz (opd_rel hx hF) hbi hH hL hcl
        · cases hsl
      | _ => simp [slimBuiltin] at hsl
  | range t X =>
    simp only [slimOp0, ho] at hsl
    split at hsl
    case h_2 => cases hsl
    rename_i x h1 hx
    cases hsl
    simp only [evOp, opds, evX] at he
    refine x_case he (fun hu hl => ?_)
    subst hl
    exact sim_rgS (P := P) h1 (opd_rel hx hF) (by simp [execOp, ho]) hH hL hu hfR
  | next X b =>
    cases b with
    | false => simp [slimOp0, ho] at hsl
    | true =>
      simp only [slimOp0, ho] at hsl
      split at hsl
      case h_2 => cases hsl
      rename_i x hx
      cases hsl
      simp only [evOp, opds, evX] at he
      refine x_case he (fun hu hl => ?_)
      subst hl
      exact sim_nxS (P := P) (t := o.type) (opd_rel hx hF) (by simp [execOp, ho]) hH hL hu
  | makeMap t r =>
    cases r with
    | some z => simp [slimOp0, ho] at hsl
    | none =>
      simp only [slimOp0, ho] at hsl
      cases hsl
      simp only [evOp, opds, evX, Option.some.injEq, VNext.val.injEq] at he
      obtain ⟨rfl, rfl, rfl⟩ := he
      exact sim_mkm hH hL (by simpa using hfR) (by simp only [execOp, ho, Option.map_none, Sem.run_bind]; rfl)
  | lookup t X K ok =>
    simp only [slimOp0, ho] at hsl
    split at hsl
    case h_2 => cases hsl
    rename_i kt e x k ht hx hk
    split at hsl
    case h_2 => cases hsl
    rename_i g ks z hkk hz
    cases hsl
    simp only [evOp, opds, evX] at he
    cases hvv : vmget g ks ok z H (opd fr x) (opd fr k) with
    | none => rw [hvv] at he; simp [optH] at he
    | some u =>
      rw [hvv] at he
      simp only [optH, Option.some.injEq, VNext.val.injEq] at he
      obtain ⟨rfl, rfl, rfl⟩ := he
      obtain ⟨y, h1, h2⟩ := mget_rel (P := P) (w := w) ht hkk hz (opd_rel hx hF) (opd_rel hk hF) hH hvv
      exact OpSim.pure (x := y) (by simp only [execOp, ho, Sem.run_bind, h1, Result.andThen_ok, Sem.run_pure]) (.vr h2) hH hL
  | mapUpdate t M K U =>
    simp only [slimOp0, ho] at hsl
    split at hsl
    case h_2 => cases hsl
    rename_i kt e m k u ht hm hk hu
    split at hsl
    case h_2 => cases hsl
    rename_i g ks hkk
    cases hsl
    simp only [evOp, opds, evX] at he
    cases hvv : vmput lim g ks H (opd fr m) (opd fr k) (opd fr u) with
    | none => rw [hvv] at he; simp [optV] at he
    | some H1 =>
      rw [hvv] at he
      simp only [optV, Option.some.injEq, VNext.val.injEq] at he
      obtain ⟨rfl, rfl, rfl⟩ := he
      exact sim_mput ht hkk (opd_rel hm hF) (opd_rel hk hF) (opd_rel hu hF) (by simp [execOp, ho]) hH hL hvv
  | mapEntry t M K =>
    simp only [slimOp0, ho] at hsl
    split at hsl
    case h_2 => cases hsl
    rename_i kt e m k ht hm hk
    split at hsl
    case h_2 => cases hsl
    rename_i g ks z hkk hz
    cases hsl
    simp only [evOp, opds, evX] at he
    cases hvv : vment lim g ks z H (opd fr m) (opd fr k) with
    | none => rw [hvv] at he; simp at he
    | some r1 =>
      obtain ⟨v1, H1⟩ := r1
      rw [hvv] at he
      simp only [Option.some.injEq, VNext.val.injEq] at he
      obtain ⟨rfl, rfl, rfl⟩ := he
      exact sim_ment ht hkk hz (opd_rel hm hF) (opd_rel hk hF) (by simp [execOp, ho]) hH hL hvv
  | entryStore t M S X =>
    simp only [slimOp0, ho] at hsl
    split at hsl
    case h_2 => cases hsl
    rename_i m n x hm hn hx
    cases hsl
    simp only [evOp, opds, evX] at he
    cases hvv : vmest lim H (opd fr m) (opd fr n) (opd fr x) with
    | none => rw [hvv] at he; simp [optV] at he
    | some H1 =>
      rw [hvv] at he
      simp only [optV, Option.some.injEq, VNext.val.injEq] at he
      obtain ⟨rfl, rfl, rfl⟩ := he
      exact sim_mest (t := t) (opd_rel hm hF) (opd_rel hn hF) (opd_rel hx hF) (by simp [execOp, ho]) hH hL hvv
  | nilCheck X =>
    simp only [slimOp0, ho, Option.map_eq_some_iff] at hsl
    obtain ⟨x, hx, rfl⟩ := hsl
    simp only [evOp] at he
    refine pure_case hH hL he (fun u hv => ?_)
    have hX := opd_rel hx hF
    cases hq : opd fr x <;> rw [hq] at hv hX <;> simp only [vnilc] at hv <;> try (cases hv; done)
    · cases hv
      obtain ⟨r, oo, cc, hρ, hx3⟩ := hX.ptr
      exact ⟨a.eval X, by rw [hx3]; simp [execOp, ho, hx3], hX⟩
    · cases hv
      obtain ⟨r, hr, hx3⟩ := hX.lpt
      exact ⟨a.eval X, by rw [hx3]; simp [execOp, ho, hx3], hX⟩
    · split at hv
      · rename_i heq; cases heq
      · rename_i heq; cases heq
      · rename_i f fs cs heq
        cases heq
        cases hv
        cases hX with
        | vr h =>
          generalize hxe : a.eval X = xe at *
          cases h with
          | func h1 h2 h3 h4 =>
            exact ⟨_, by simp [execOp, ho, hxe], .vr (.func h1 h2 h3 h4)⟩
      · cases hv
  | makeFunc fn fs cs =>
    cases fn with
    | func f =>
      simp only [slimOp0, ho] at hsl
      split at hsl
      case h_2 => cases hsl
      rename_i xs ys hxs hys
      cases hsl
      simp only [evOp] at he
      split at he
      case isFalse => cases he
      rename_i hst
      simp only [Bool.and_eq_true] at hst
      simp only [Option.some.injEq, VNext.val.injEq] at he
      obtain ⟨rfl, rfl, rfl⟩ := he
      have h1 := opds_rel hxs hF hst.1
      have h2 := opds_rel hys hF hst.2
      refine OpSim.pure (x := .func (.func f) (fs.map a.eval) (cs.map a.eval)) (by simp [execOp, ho, Instr.makeFunc]) (.vr (.func ?_ (fun i hi => ?_) ?_ fun i hi => ?_)) hH hL
      · simpa using h1.1
      · have := h1.2 i hi
        simpa [List.getD_eq_getElem?_getD, Array.getD_eq_getD_getElem?] using this
      · simpa using h2.1
      · have := h2.2 i hi
        simpa [List.getD_eq_getElem?_getD, Array.getD_eq_getD_getElem?] using this
    | _ => simp [slimOp0, ho] at hsl
  | _ => simp [slimOp0, ho] at hsl

theorem simOp {glob : List Nat} (hsl : slimOp P glob o = some vo) (he : evOp lim fr L H vo = some (.val v L' H')) (hF : FRel ρ lam fr a.tmps) (hH : RelH ρ H w) (hL : RelL A ρ lam L w)
    (hA : ∀ id, memId fr vo = some id → A id ∧ tg id) (hfR : FreeR ρ H.length H'.length) (hfL : FreeL lam L.length L'.length) : OpSim P lim tg A ρ lam L H w (execOp a.eval o) v L' H' := by
  rcases slimOp_or hsl with h | rfl
  · exact simOp0 h he hF hH hL hA hfR hfL
  · simp [evOp] at he

theorem builtin_no_call {glob : List Nat} (b : Builtin) (xs : Option (List Opd)) (ts : List TypeId) {vo : VOp} (h : slimBuiltin P glob b xs ts = some vo) : (∀ f ys, vo ≠ .call f ys) ∧ ∀ x ys, vo ≠ .callV x ys := by
  unfold slimBuiltin at h
  repeat' (split at h)
  all_goals (first | (cases h; done) | (cases h; exact ⟨fun _ _ h => (by cases h), fun _ _ h => (by cases h)⟩) | (simp only [Option.map_eq_some_iff] at h; obtain ⟨_, _, rfl⟩ := h; exact ⟨fun _ _ h => (by cases h), fun _ _ h => (by cases h)⟩))

theorem slim_call {glob : List Nat} {vo : VOp} (h : slimOp0 P glob o = some vo) (hv : (∃ f ys, vo = .call f ys) ∨ ∃ x ys, vo = .callV x ys) : ∃ c, o.op = .call c := by
  cases ho : o.op
  case call c => exact ⟨c, rfl⟩
  case makeFunc fn fs cs =>
    exfalso
    cases fn
    all_goals simp only [slimOp0, ho] at h
    all_goals repeat' (split at h)
    all_goals (first | (cases h; done) | (simp only [Option.map_eq_some_iff] at h; obtain ⟨_, _, rfl⟩ := h; rcases hv with ⟨_, _, h⟩ | ⟨_, _, h⟩ <;> cases h; done) | (cases h; rcases hv with ⟨_, _, h⟩ | ⟨_, _, h⟩ <;> cases h; done))
  case next X b =>
    exfalso
    cases b
    all_goals simp only [slimOp0, ho] at h
    all_goals repeat' (split at h)
    all_goals (first | (cases h; done) | (cases h; rcases hv with ⟨_, _, h⟩ | ⟨_, _, h⟩ <;> cases h; done))
  case makeMap t r =>
    exfalso
    cases r
    all_goals simp only [slimOp0, ho] at h
    all_goals (first | (cases h; done) | (cases h; rcases hv with ⟨_, _, h⟩ | ⟨_, _, h⟩ <;> cases h; done))
  case slice t x lo hi mx =>
    exfalso
    cases mx
    all_goals simp only [slimOp0, ho] at h
    all_goals repeat' (split at h)
    all_goals (first | (cases h; done) | (simp only [Option.map_eq_some_iff] at h; obtain ⟨_, _, rfl⟩ := h; rcases hv with ⟨_, _, h⟩ | ⟨_, _, h⟩ <;> cases h; done) | (cases h; rcases hv with ⟨_, _, h⟩ | ⟨_, _, h⟩ <;> cases h; done))
  all_goals
    exfalso
    simp only [slimOp0, ho] at h
    repeat' (split at h)
    all_goals (first | (cases h; done) | (simp only [Option.map_eq_some_iff] at h; obtain ⟨_, _, rfl⟩ := h; rcases hv with ⟨_, _, h⟩ | ⟨_, _, h⟩ <;> cases h; done) | (cases h; rcases hv with ⟨_, _, h⟩ | ⟨_, _, h⟩ <;> cases h; done))

/-- a call of a function of the program -/
theorem simCall {glob : List Nat} (hsl' : slimOp P glob o = some vo) {f : FuncId} {args : List V} (he : evOp lim fr L H vo = some (.call f args)) (hF : FRel ρ lam fr a.tmps) (hbod : bodied P f = true) (hy : f ≠ yB) :
    ∃ xs : Array Value, (execOp a.eval o).run P w = .ok (.enter f xs) w ∧ VRs ρ args xs.toList := by
  rcases slimOp_or hsl' with hsl | rfl
  case inr => simp [evOp] at he
  clear hsl'
  have pv : ∀ r, pureV L H r ≠ some (.call f args) := by
    intro r h; cases r <;> simp [pureV] at h
  unfold bodied at hbod
  split at hbod
  case h_2 => cases hbod
  rename_i fn hfn
  simp only [Bool.and_eq_true, Bool.not_eq_true', beq_eq_false_iff_ne, ne_eq] at hbod
  obtain ⟨body, hbody⟩ := Option.isSome_iff_exists.1 hbod.2
  have key : (∃ g ys, vo = .call g ys) ∨ ∃ x ys, vo = .callV x ys := by
    cases vo <;> simp only [evOp] at he <;> first | (exact absurd he (pv _)) | (exact Or.inl ⟨_, _, rfl⟩) | (exact Or.inr ⟨_, _, rfl⟩) | (cases he; done) | (split at he <;> first | (cases he; done) | (split at he <;> first | (cases he; done) | (split at he <;> (cases he; done))))
  obtain ⟨c, ho⟩ := slim_call hsl key
  simp only [slimOp0, ho] at hsl
  cases hc : c.callee with
  | value fo =>
    rw [hc] at hsl
    cases fo with
    | func f' =>
      simp only at hsl
      split at hsl
      case isFalse => cases hsl
      simp only [Option.map_eq_some_iff] at hsl
      obtain ⟨ys, hys, rfl⟩ := hsl
      simp only [evOp] at he
      split at he
      case isFalse => cases he
      rename_i hst
      cases he
      refine ⟨c.args.map a.eval, ?_, ?_⟩
      · simp [execOp, ho, resolve, hc, Act.eval, Deferred.ofValue, invoke, callFunc, hfn, hbod.1, hbody]
      · have := opds_rel hys hF hst
        simpa using this
    | tmp t =>
      simp only [Option.map_eq_some_iff] at hsl
      obtain ⟨ys, hys, rfl⟩ := hsl
      simp only [evOp] at he
      split at he
      case isFalse => cases he
      rename_i hst
      split at he
      case h_2 => cases he
      rename_i g vs htg
      simp only [Option.some.injEq, VNext.call.injEq] at he
      obtain ⟨rfl, rfl⟩ := he
      have hX := opd_rel (a := a) (X := .tmp t) (x := .t t) rfl hF
      unfold vtarget at htg
      split at htg
      case h_3 => cases htg
      case h_2 => cases htg; exact absurd rfl hy
      rename_i g' fs cs hq
      split at htg
      · cases htg
      simp only [Option.some.injEq, Prod.mk.injEq] at htg
      obtain ⟨rfl, rfl⟩ := htg
      rw [hq] at hX
      cases hX with
      | vr h =>
        generalize hxe : a.eval (.tmp t) = xe at *
        cases h with
        | func h1 h2 h3 h4 =>
          rename_i fs' cs'
          have ha := opds_rel hys hF hst
          refine ⟨fs' ++ c.args.map a.eval ++ cs', ?_, ?_⟩
          · simp [execOp, ho, resolve, hc, hxe, Deferred.ofValue, invoke, callFunc, hfn, hbod.1, hbody]
          · have v1 : VRs ρ fs fs'.toList := ⟨by simpa using h1, fun i hi => by have := h2 i hi; simpa [List.getD_eq_getElem?_getD, Array.getD_eq_getD_getElem?] using this⟩
            have v2 : VRs ρ cs cs'.toList := ⟨by simpa using h3, fun i hi => by have := h4 i hi; simpa [List.getD_eq_getElem?_getD, Array.getD_eq_getD_getElem?] using this⟩
            have := (v1.append ha).append v2
            simpa using this
    | _ => simp at hsl
  | invoke r m => rw [hc] at hsl; simp at hsl
  | builtin b =>
    rw [hc] at hsl
    simp only at hsl
    obtain ⟨n1, n2⟩ := builtin_no_call b _ _ hsl
    rcases key with ⟨g, ys, h⟩ | ⟨x, ys, h⟩
    · exact absurd h (n1 g ys)
    · exact absurd h (n2 x ys)


/-- a call of a loop's yield -/
theorem simYield {glob : List Nat} (hsl' : slimOp P glob o = some vo) {args : List V} (he : evOp lim fr L H vo = some (.call yB args)) (hF : FRel ρ lam fr a.tmps) :
    ∃ b ys r oo c xs, args = .yl b :: ys ∧ ρ b = some (r, oo, c) ∧ VRs ρ ys xs.toList ∧ ∀ rc, w.heap[r]? = some (.loop rc) → xs.size = rc.params.size →
      (execOp a.eval o).run P w = .ok (.round r rc.fn ((rc.params.zip xs).foldl (fun tmps (t, a) => tmps.setIfInBounds t a) rc.tmps) rc.assign rc.body) w := by
  rcases slimOp_or hsl' with hsl | rfl
  case inr => simp [evOp] at he
  clear hsl'
  have pv : ∀ r, pureV L H r ≠ some (.call yB args) := by
    intro r h; cases r <;> simp [pureV] at h
  have key : (∃ g ys, vo = .call g ys) ∨ ∃ x ys, vo = .callV x ys := by
    cases vo <;> simp only [evOp] at he <;> first | (exact absurd he (pv _)) | (exact Or.inl ⟨_, _, rfl⟩) | (exact Or.inr ⟨_, _, rfl⟩) | (cases he; done) | (split at he <;> first | (cases he; done) | (split at he <;> first | (cases he; done) | (split at he <;> (cases he; done))))
  obtain ⟨c, ho⟩ := slim_call hsl key
  simp only [slimOp0, ho] at hsl
  cases hc : c.callee with
  | value fo =>
    rw [hc] at hsl
    cases fo with
    | func f' =>
      simp only at hsl
      split at hsl
      case isFalse => cases hsl
      rename_i hny
      simp only [Option.map_eq_some_iff] at hsl
      obtain ⟨ys, hys, rfl⟩ := hsl
      simp only [evOp] at he
      split at he
      case isFalse => cases he
      cases he
      simp at hny
    | tmp t =>
      simp only [Option.map_eq_some_iff] at hsl
      obtain ⟨ys, hys, rfl⟩ := hsl
      simp only [evOp] at he
      split at he
      case isFalse => cases he
      rename_i hst
      split at he
      case h_2 => cases he
      rename_i g vs htg
      simp only [Option.some.injEq, VNext.call.injEq] at he
      obtain ⟨rfl, rfl⟩ := he
      have hX := opd_rel (a := a) (X := .tmp t) (x := .t t) rfl hF
      unfold vtarget at htg
      split at htg
      case h_3 => cases htg
      case h_1 =>
        split at htg
        · cases htg
        · rename_i hne
          simp only [Option.some.injEq, Prod.mk.injEq] at htg
          exact absurd htg.1 hne
      rename_i b hq
      simp only [Option.some.injEq, Prod.mk.injEq, true_and] at htg
      rw [hq] at hX
      cases hX with
      | vr h =>
        generalize hxe : a.eval (.tmp t) = xe at *
        cases h with
        | yl hb =>
          rename_i r oo cc
          have ha := opds_rel hys hF hst
          refine ⟨b, opds fr ys, r, oo, cc, c.args.map a.eval, htg.symm, hb, by simpa using ha, fun rc hw hsz => ?_⟩
          have := run_yield (P := P) hw hsz
          simp [execOp, ho, resolve, hc, hxe, Deferred.ofValue, invoke]
          simpa using this
    | _ => simp at hsl
  | invoke r m => rw [hc] at hsl; simp at hsl
  | builtin b =>
    rw [hc] at hsl
    simp only at hsl
    obtain ⟨n1, n2⟩ := builtin_no_call b _ _ hsl
    rcases key with ⟨g, ys, h⟩ | ⟨x, ys, h⟩
    · exact absurd h (n1 g ys)
    · exact absurd h (n2 x ys)

end
end Go.Proofs.YtpdnbmnnkefedaaGreatDoor.Vm
