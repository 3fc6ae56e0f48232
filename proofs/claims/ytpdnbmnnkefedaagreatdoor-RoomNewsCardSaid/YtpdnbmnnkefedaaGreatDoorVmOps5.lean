/- Operation by operation, the last part: the operations that only compute; all of them in one. -/
import Derived.Test.YtpdnbmnnkefedaaGreatDoorVmEq
namespace Go.Proofs.YtpdnbmnnkefedaaGreatDoor.Vm
open Go
set_option linter.unusedVariables false
set_option linter.unusedSimpArgs false

section
variable {P : Program} {lim : Nat} {tg A : Nat → Prop} {ρ : Loc} {lam : Lam} {L L' : Lo} {H H' : Hp} {w : World} {s : Sem Next} {fr : Fr} {a : Act}

theorem bin_rel {op : BinOp} {t : TypeId} {x y : Operand} {u v r : V} {a b : Value} (h : vbin op u v = some r) (hu : FV ρ lam u a) (hv : FV ρ lam v b) :
    eqGuard op t x y a b = pure () ∧ ∃ z, (binOp op t a b).run P w = .ok z w ∧ VR ρ r z := by
  cases u <;> cases v <;> simp only [vbin] at h <;> try (cases h; done)
  · -- ints
    rename_i k m k' n
    have h1 := hu.int; have h2 := hv.int; subst h1 h2
    refine ⟨eqGuard_at_int .., ?_⟩
    split at h
    · rename_i hs
      unfold vshift at h
      split at h
      · split at h
        · cases h
        · rename_i hb
          cases h
          exact ⟨_, by simp only [binOp, Op.shift, hb, if_false]; rfl, .int _ _⟩
      · split at h
        · cases h
        · rename_i hb
          cases h
          exact ⟨_, by simp only [binOp, Op.shift, hb, if_false]; rfl, .int _ _⟩
      · cases h
    rename_i hs
    split at h
    case isFalse => cases h
    rename_i e
    subst e
    cases op <;> simp only at h <;> first | (cases h; done) | (exact absurd rfl hs) | skip
    · cases h; exact ⟨_, by rw [binOp_add]; rfl, .int _ _⟩
    · cases h; exact ⟨_, by rw [binOp_sub]; rfl, .int _ _⟩
    · cases h; exact ⟨_, by rw [binOp_mul]; rfl, .int _ _⟩
    · split at h
      · cases h
      · rename_i h0
        cases h; exact ⟨_, by rw [binOp_quo]; simp only [Op.intDiv, h0, if_false]; rfl, .int _ _⟩
    · split at h
      · cases h
      · rename_i h0
        cases h; exact ⟨_, by rw [binOp_rem]; simp only [Op.intDiv, h0, if_false]; rfl, .int _ _⟩
    · cases h; exact ⟨_, by simp only [binOp, Op.intBits, ne_eq, not_true_eq_false, if_false]; rfl, .int _ _⟩
    · cases h; exact ⟨_, by simp only [binOp, Op.intBits, ne_eq, not_true_eq_false, if_false]; rfl, .int _ _⟩
    · cases h; exact ⟨_, by simp only [binOp, Op.intBits, ne_eq, not_true_eq_false, if_false]; rfl, .int _ _⟩
    · cases h; exact ⟨_, by simp only [binOp, Op.intBits, ne_eq, not_true_eq_false, if_false]; rfl, .int _ _⟩
    · cases h; exact ⟨_, by rw [binOp_eql]; rfl, .bool _⟩
    · cases h; exact ⟨_, by rw [binOp_neq]; rfl, .bool _⟩
    · cases h; exact ⟨_, by rw [binOp_lss]; rfl, .bool _⟩
    · cases h; exact ⟨_, by rw [binOp_leq]; rfl, .bool _⟩
    · cases h; exact ⟨_, by rw [binOp_gtr]; rfl, .bool _⟩
    · cases h; exact ⟨_, by rw [binOp_geq]; rfl, .bool _⟩
  · -- texts
    rename_i p q
    have h1 := hu.str; have h2 := hv.str; subst h1 h2
    refine ⟨eqGuard_at_string .., ?_⟩
    cases op <;> simp only at h <;> first | (cases h; done) | skip
    · split at h
      · rename_i hle
        cases h
        refine ⟨.string (p ++ q), ?_, .str _⟩
        have hno : ¬ (((p.size + q.size : Nat) : Int) > IntKind.i64.max) := by rw [IntKind.max_i64]; omega
        show (Op.stringOp .add p q).run P w = _
        simp only [Op.stringOp, if_neg hno]; rfl
      · cases h
    all_goals (cases h; exact ⟨_, rfl, .bool _⟩)

theorem vfield_rel {off : Nat} {g : Option Nat} {t : TypeId} {v u : V} {x : Value} (hag : aggOf P t = some g) (h : vfield off g v = some u) (hv : FV ρ lam v x) :
    ∃ C y, x = .agg C ∧ (part t C off).run P w = .ok y w ∧ VR ρ u y := by
  cases v <;> simp [vfield] at h
  obtain ⟨C, rfl, h1, h2⟩ := hv.agg
  have hsz := h1.1
  simp only [Array.length_toList] at hsz
  cases g with
  | none =>
    simp only [rd] at h
    split at h
    · rename_i hlt
      cases h
      have hlt' : off < C.size := by omega
      refine ⟨C, C.getD off ux, rfl, ?_, ?_⟩
      · simp [part, aggOf_none hag, hlt']
      · have := h1.2 off hlt
        simpa [List.getD_eq_getElem?_getD, Array.getD_eq_getD_getElem?] using this
    · cases h
  | some n =>
    simp only [rd] at h
    split at h
    · rename_i hle
      cases h
      obtain ⟨g1, g2⟩ := aggOf_some (w := w) hag
      refine ⟨C, .agg (C.extract off (off + n)), rfl, ?_, ?_⟩
      · simp only [part, Sem.run_bind, g1, Result.andThen_ok, if_true, g2, Sem.run_pure]
      · refine vr_agg ?_ (Scals.take (Scals.drop h2 off) n)
        have := (h1.drop off).take n
        have e : (C.extract off (off + n)).toList = (C.toList.drop off).take n := by simp
        rw [e]; exact this
    · cases h

theorem vint_rel {v : V} {n : Int} {x : Value} (h : vint v = some n) (hv : FV ρ lam v x) : ∃ k, x = .int k n := by
  cases v <;> simp [vint] at h
  subst h; exact ⟨_, hv.int⟩

theorem vfaddr_rel {off : Nat} {v u : V} {x : Value} (h : vfaddr off v = some u) (hv : FV ρ lam v x) : ∃ ad : Addr, x = .pointer (some ad) ∧ ad.spot = none ∧ FV ρ lam u (.pointer (some ⟨ad.block, ad.off + off, none⟩)) := by
  cases v <;> simp [vfaddr] at h <;> subst h
  · obtain ⟨r, o, c, h1, rfl⟩ := hv.ptr
    refine ⟨_, rfl, rfl, .vr ?_⟩
    simpa [Nat.add_assoc] using VR.ptr (off := _ + off) h1
  · obtain ⟨r, h1, rfl⟩ := hv.lpt
    exact ⟨_, rfl, rfl, .lp h1⟩

theorem bounds_rel {isS : Bool} {len cap : Nat} (hcap : len ≤ cap) {Lo' Hi' : Option Operand} {lo hi : Option Opd} (hlo : slimOpdO Lo' = some lo) (hhi : slimOpdO Hi' = some hi) (hF : FRel ρ lam fr a.tmps) {l h : Nat}
    (hb : vbounds len (opdO fr lo) (opdO fr hi) = some (l, h)) : l ≤ h ∧ h ≤ len ∧ (Instr.sliceBounds isS len cap (Lo'.map a.eval) (Hi'.map a.eval) none).run P w = .ok (l, h, cap) w := by
  unfold vbounds at hb
  have hhi' : ∃ hv : Int, (match opdO fr hi with | none => some (len : Int) | some v => vint v) = some hv ∧ 0 ≤ hv ∧ hv ≤ len ∧
      (match (match opdO fr lo with | none => some (0 : Int) | some v => vint v) with | none => none | some l => if 0 ≤ l ∧ l ≤ hv then some (l.toNat, hv.toNat) else none) = some (l, h) := by
    split at hb
    · cases hb
    · rename_i hv heq
      split at hb
      · rename_i hc
        exact ⟨hv, heq, hc.1, hc.2, hb⟩
      · cases hb
  obtain ⟨hv, e1, h0, hle, hb⟩ := hhi'
  have hlo' : ∃ lv : Int, (match opdO fr lo with | none => some (0 : Int) | some v => vint v) = some lv ∧ 0 ≤ lv ∧ lv ≤ hv ∧ l = lv.toNat ∧ h = hv.toNat := by
    split at hb
    · cases hb
    · rename_i lv heq
      split at hb
      · rename_i hc
        cases hb
        exact ⟨lv, heq, hc.1, hc.2, rfl, rfl⟩
      · cases hb
  obtain ⟨lv, e2, l0, lle, rfl, rfl⟩ := hlo'
  refine ⟨by omega, by omega, ?_⟩
  have hH : ∀ (code : BoundsCode), (match (Hi'.map a.eval : Option Value) with | some v => Instr.sliceBound v cap code | none => pure len : Sem Nat).run P w = .ok hv.toNat w := by
    intro code
    cases Hi' with
    | none =>
      simp [slimOpdO] at hhi; subst hhi
      simp [opdO] at e1
      simp [← e1]
    | some X =>
      simp only [slimOpdO, Option.map_eq_some_iff] at hhi
      obtain ⟨x, hx, rfl⟩ := hhi
      simp only [opdO] at e1
      obtain ⟨k, hk⟩ := vint_rel e1 (opd_rel hx hF)
      have hc : 0 ≤ hv ∧ hv ≤ (cap : Int) := ⟨h0, by omega⟩
      simp [hk, Instr.sliceBound, asIntOf, hc]
  have hL : ∀ (code : BoundsCode), (match (Lo'.map a.eval : Option Value) with | some v => Instr.sliceBound v hv.toNat code | none => pure 0 : Sem Nat).run P w = .ok lv.toNat w := by
    intro code
    cases Lo' with
    | none =>
      simp [slimOpdO] at hlo; subst hlo
      simp [opdO] at e2
      simp [← e2]
    | some X =>
      simp only [slimOpdO, Option.map_eq_some_iff] at hlo
      obtain ⟨x, hx, rfl⟩ := hlo
      simp only [opdO] at e2
      obtain ⟨k, hk⟩ := vint_rel e2 (opd_rel hx hF)
      have hc : 0 ≤ lv ∧ lv ≤ hv := ⟨l0, lle⟩
      simp [hk, Instr.sliceBound, asIntOf]
      omega
  have hHH := hH (if isS then .sliceAcap else .sliceAlen)
  have hLL := hL .sliceB
  unfold Instr.sliceBounds
  cases hq : (Hi'.map a.eval : Option Value) with
  | none =>
    have e3 : len = hv.toNat := by simpa [hq] using hHH
    cases hr : (Lo'.map a.eval : Option Value) with
    | none =>
      have e4 : 0 = lv.toNat := by simpa [hr] using hLL
      simp [← e3, ← e4]
    | some v =>
      have e4 : (Instr.sliceBound v hv.toNat .sliceB).run P w = .ok lv.toNat w := by simpa [hr] using hLL
      simp [e3, e4]
  | some u =>
    have e3 : (Instr.sliceBound u cap (if isS then .sliceAcap else .sliceAlen)).run P w = .ok hv.toNat w := by simpa [hq] using hHH
    cases hr : (Lo'.map a.eval : Option Value) with
    | none =>
      have e4 : 0 = lv.toNat := by simpa [hr] using hLL
      simp [e3, ← e4]
    | some v =>
      have e4 : (Instr.sliceBound v hv.toNat .sliceB).run P w = .ok lv.toNat w := by simpa [hr] using hLL
      simp [e3, e4]

theorem bound_run {X : Operand} {x : Opd} (hx : slimOpd X = some x) (hF : FRel ρ lam fr a.tmps) {n : Int} (hn : vint (opd fr x) = some n) {y : Nat} (h : 0 ≤ n ∧ n ≤ y) (code : BoundsCode) : (Instr.sliceBound (a.eval X) y code).run P w = .ok n.toNat w := by
  obtain ⟨k, hk⟩ := vint_rel hn (opd_rel hx hF)
  simp [hk, Instr.sliceBound, asIntOf, h]
/-- with a third bound -/
theorem bounds_rel3 {isS : Bool} {len cap : Nat} {Lo' : Option Operand} {Hi Mx : Operand} {lo : Option Opd} {hi mx : Opd} (hlo : slimOpdO Lo' = some lo) (hhi : slimOpd Hi = some hi) (hmx : slimOpd Mx = some mx) (hF : FRel ρ lam fr a.tmps) {l h : Nat} {m : Int}
    (hm : vint (opd fr mx) = some m) (hmc : 0 ≤ m ∧ m ≤ cap) (hb : vbounds m.toNat (opdO fr lo) (some (opd fr hi)) = some (l, h)) : l ≤ h ∧ h ≤ m.toNat ∧ (Instr.sliceBounds isS len cap (Lo'.map a.eval) (some (a.eval Hi)) (some (a.eval Mx))).run P w = .ok (l, h, m.toNat) w := by
  unfold vbounds at hb
  simp only at hb
  cases hhv : vint (opd fr hi) with
  | none => rw [hhv] at hb; cases hb
  | some hv =>
    rw [hhv] at hb
    simp only at hb
    split at hb
    case isFalse => cases hb
    rename_i hc
    have eM := bound_run (P := P) (w := w) hmx hF hm (y := cap) hmc (if isS then .slice3Acap else .slice3Alen)
    have eH := bound_run (P := P) (w := w) hhi hF hhv (y := m.toNat) hc .slice3B
    cases Lo' with
    | none =>
      simp [slimOpdO] at hlo; subst hlo
      simp only [opdO] at hb
      split at hb
      case isFalse => cases hb
      rename_i hc2
      cases hb
      refine ⟨by omega, by omega, ?_⟩
      simp [Instr.sliceBounds, eM, eH]
    | some X =>
      simp only [slimOpdO, Option.map_eq_some_iff] at hlo
      obtain ⟨x, hx, rfl⟩ := hlo
      simp only [opdO] at hb
      cases hlv : vint (opd fr x) with
      | none => rw [hlv] at hb; cases hb
      | some lv =>
        rw [hlv] at hb
        simp only at hb
        split at hb
        case isFalse => cases hb
        rename_i hc2
        cases hb
        have eL := bound_run (P := P) (w := w) hx hF hlv (y := hv.toNat) (by omega) .slice3C
        refine ⟨by omega, by omega, ?_⟩
        simp [Instr.sliceBounds, eM, eH, eL]

end
end Go.Proofs.YtpdnbmnnkefedaaGreatDoor.Vm
