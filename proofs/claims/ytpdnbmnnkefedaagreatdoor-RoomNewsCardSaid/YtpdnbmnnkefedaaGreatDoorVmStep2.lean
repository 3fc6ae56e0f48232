/- One operation of a region: the model's 'wpOp' out of the machine's step. -/
import Derived.Test.YtpdnbmnnkefedaaGreatDoorVmStep
import Derived.OrdersIn
import Derived.LoopNIn
import Derived.Scope
namespace Go.Proofs.YtpdnbmnnkefedaaGreatDoor.Vm
open Go
set_option linter.unusedVariables false
set_option linter.unusedSimpArgs false

/-- the fence of a walk: whatever function, whatever depth; in a round of a loop over a function or not -/
def rF (r : Option Nat) : Fence := { Fence.wide with round := r }
theorem callsIn_rF {r : Option Nat} {n : Nat} {P : Program} {f : FuncId} {args : Array Value} {w : World} {R : Ending → World → Prop} (h : Calls P f args w R) : CallsIn (rF r) n P f args w R := (callsIn_wide (n := n)).2 h
theorem slim_nodefer {P : Program} {glob : List Nat} {o : Oper} {v : VOp} (h : slimOp P glob o = some v) (hv : v ≠ .stuck) : ∀ c, o.op ≠ .defer c := by
  intro c hc
  have e : slimOp0 P glob o = none := by unfold slimOp0; rw [hc]
  unfold slimOp at h
  rw [e] at h
  cases h
  exact hv rfl
/-- what a call must do: the machine's callee against the model's; a call of a loop's yield: a round -/
def CallOk (P : Program) (call : CallFn) : Prop :=
  ∀ lim f args H v H', call lim f args H = some (v, H') →
    (f ≠ yB → bodied P f = true ∧ ∀ (ρ : Loc) (w : World) (xs : Array Value), RelH ρ H w → GRel ρ → VRs ρ args xs.toList → FreeR ρ H.length H'.length →
      Calls P f xs w fun e w' => ∃ x ρ', e = .returned x ∧ VR ρ' v x ∧ Grow lim (fun _ => True) ρ (fun _ => none) [] H w ρ' (fun _ => none) [] H' w' ∧ RelH ρ' H' w') ∧
    (f = yB → ∀ (b : Nat) (ys : List V) (ρ : Loc) (w : World) (r oo c : Nat) (xs : Array Value), args = .yl b :: ys → ρ b = some (r, oo, c) → RelH ρ H w → GRel ρ → VRs ρ ys xs.toList → FreeR ρ H.length H'.length →
      ∃ rc, w.heap[r]? = some (.loop rc) ∧ xs.size = rc.params.size ∧ ∀ r0, RoundIn (rF r0) 0 P r rc.fn ((rc.params.zip xs).foldl (fun tmps (t, a) => tmps.setIfInBounds t a) rc.tmps) rc.assign rc.body w
        fun e w' => ∃ ρ', e = .returned (.bool true) ∧ v = .bool true ∧ Grow lim (fun _ => True) ρ (fun _ => none) [] H w ρ' (fun _ => none) [] H' w' ∧ RelH ρ' H' w')

section
variable {P : Program} {call : CallFn} {lim : Nat} {A : Nat → Prop} {ρ : Loc} {lam : Lam} {L L' : Lo} {H H' : Hp} {w : World} {fr : Fr} {a : Act} {v : V} {ops : Array Oper} {o : Oper} {vo : VOper} {k : Nat} {r : Option Nat}

theorem wanted_rel (hF : FRel ρ lam fr a.tmps) (hg : (match o.guard with | none => vo.guard = none | some (j, want) => ∃ s, (ops[j]?).bind (·.dst) = some s ∧ vo.guard = some (s, want))) :
    Region.wanted o (yielded ops a.tmps) = wanted fr vo.guard := by
  unfold Region.wanted
  split at hg
  · rename_i h
    rw [h, hg]; rfl
  · rename_i j want h
    obtain ⟨s, h1, h2⟩ := hg
    rw [h, h2]
    simp only [yielded, h1, Option.bind_some, wanted]
    have hf := hF.fv s
    cases hq : fr s with
    | bool b =>
      rw [hq] at hf
      have hb := hf.bool
      have : a.tmps[s]? = some (.bool b) := by
        rw [Array.getD_eq_getD_getElem?] at hb
        cases hc : a.tmps[s]? with
        | none => rw [hc] at hb; cases hb
        | some x => rw [hc] at hb; simp at hb; rw [hb]
      simp only [this]
      cases b <;> cases want <;> rfl
    | _ =>
      rw [hq] at hf
      have hnb : ∀ b, a.tmps[s]? ≠ some (.bool b) := by
        intro b hb
        rw [Array.getD_eq_getD_getElem?, hb] at hf
        simp only [Option.getD_some] at hf
        rcases hf with h | h | h <;> first | (cases h; done) | exact h b rfl
      cases hc : a.tmps[s]? with
      | none => simp
      | some x =>
        cases x with
        | bool b => exact absurd hc (hnb b)
        | _ => simp

/-- the relation of the activation's variables behind a call -/
theorem RelL.afterCall {ρ' : Loc} {w' : World} (h : RelL A ρ lam L w) (hH : RelH ρ H w) (hf : FreeR ρ H.length H'.length) (g : Grow lim (fun _ => True) ρ (fun _ => none) [] H w ρ' (fun _ => none) [] H' w')
    (hH' : RelH ρ' H' w') : RelL A ρ' lam L w' ∧ Grow lim (fun _ => False) ρ lam L H w ρ' lam L H' w' := by
  have hno : ∀ id r, lam id = some r → ¬ Open lim ρ H r := by
    rintro id r hi ⟨b, o, c, _, _, hb⟩
    exact h.disj id r b o c hi hb
  have hk : ∀ id r, lam id = some r → w'.heap[r]? = w.heap[r]? := fun id r hi => g.keep r (h.dom id r hi) (hno id r hi) (fun _ _ => by simp)
  refine ⟨⟨fun id r hi => Nat.lt_of_lt_of_le (h.dom id r hi) g.size, h.inj, fun id r b o c hi hb => ?_, fun id r cs ha hi hc => ((h.row id r cs ha hi hc).mono (g.leR hf)).keep (hk id r hi)⟩, ?_⟩
  · by_cases hb2 : b < H.length ∨ H'.length ≤ b
    · rw [g.extR b hb2] at hb; exact h.disj id r b o c hi hb
    · rcases g.newR b r o c (by omega) (by omega) hb with h1 | h1
      · have := h.dom id r hi; omega
      · exact hno id r hi h1
  · exact ⟨g.os, g.tape, g.output, g.size, g.lenH, Nat.le_refl _, g.extR, fun _ _ => rfl, g.newR, fun i r h1 h2 => absurd h2 (by omega), fun r hr ho _ => g.keep r hr ho (fun _ _ => by simp), g.own⟩

/-- ONE OPERATION -/
theorem step_sim {glob : List Nat} {nt : Nat} {Q : Exit → Act → World → Prop} {K : Act → World → Prop} (hcall : CallOk P call) (ho : ops[k]? = some o) (hsl : slimOp P glob o = some vo.op)
    (hg : (match o.guard with | none => vo.guard = none | some (j, want) => ∃ s, (ops[j]?).bind (·.dst) = some s ∧ vo.guard = some (s, want)))
    (he : evVal call lim vo ⟨fr, L, H⟩ = some (v, L', H')) (hF : FRel ρ lam fr a.tmps) (hH : RelH ρ H w) (hL : RelL A ρ lam L w)
    (hA : ∀ id, wanted fr vo.guard = true → memId fr vo.op = some id → A id) (hfR : FreeR ρ H.length H'.length) (hfL : FreeL lam L.length L'.length)
    (hK : ∀ x ρ' lam' w', FV ρ' lam' v x → Grow lim (fun id => wanted fr vo.guard = true ∧ memId fr vo.op = some id) ρ lam L H w ρ' lam' L' H' w' → RelH ρ' H' w' → RelL (fun i => A i ∨ L.length ≤ i) ρ' lam' L' w' → K (a.put o.dst x) w') :
    wpOpIn (rF r) 0 P ops Q k K a w := by
  unfold wpOpIn
  simp only [ho]
  rw [wanted_rel hF hg]
  unfold evVal at he
  split at he
  · rename_i hw
    simp only [hw, if_true]
    unfold Oper.wpIn
    refine ⟨fun _ _ => trivial, ?_⟩
    rw [Oper.semAt_eq _ _ _ (slim_nodefer hsl (by intro e; rw [e] at he; simp [evOp] at he))]
    split at he
    · rename_i v1 L1 H1 h1
      simp only [Option.some.injEq, Prod.mk.injEq] at he
      obtain ⟨rfl, rfl, rfl⟩ := he
      obtain ⟨x, ρ', lam', w', hrun, hv, g, r1, r2⟩ := simOp (tg := fun id => wanted fr vo.guard = true ∧ memId fr vo.op = some id) hsl h1 hF hH hL (fun id hid => ⟨hA id hw hid, hw, hid⟩) hfR hfL
      rcases hrun with hrun | ⟨hrun, rfl⟩
      · rw [hrun]; exact hK x ρ' lam' w' hv g r1 r2
      · rw [hrun]; exact hK ux ρ' lam' w' hv g r1 r2
    · rename_i f args h1
      split at he
      · rename_i v1 H1 hc
        simp only [Option.some.injEq, Prod.mk.injEq] at he
        obtain ⟨rfl, rfl, rfl⟩ := he
        by_cases hy : f = yB
        · subst hy
          obtain ⟨b, ys, r1, oo, c, xs, rfl, hρ, hxs, hrun⟩ := simYield (w := w) hsl h1 hF
          obtain ⟨rc, hw1, hsz, hrnd⟩ := (hcall _ _ _ _ _ _ hc).2 rfl b ys ρ w r1 oo c xs rfl hρ hH hF.gl hxs hfR
          rw [hrun rc hw1 hsz, Oper.uponIn_round]
          refine ⟨fun h => by simp [rF, Fence.wide] at h, (hrnd r).mono ?_⟩
          rintro e w' ⟨ρ', rfl, rfl, g, q⟩
          obtain ⟨q1, q2⟩ := hL.afterCall hH hfR g q
          exact hK (.bool true) ρ' lam w' (.vr (.bool true)) { q2 with keep := fun r hr ho _ => q2.keep r hr ho (fun _ h => h.elim) } q q1.wide
        obtain ⟨xs, hrun, hxs⟩ := simCall (w := w) hsl h1 hF ((hcall _ _ _ _ _ _ hc).1 hy).1 hy
        rw [hrun, Oper.uponIn_enter]
        refine ⟨fun h => by simp [rF, Fence.wide] at h, callsIn_rF ((((hcall _ _ _ _ _ _ hc).1 hy).2 ρ w xs hH hF.gl hxs hfR).mono ?_)⟩
        rintro e w' ⟨x, ρ', rfl, hv, g, r1⟩
        obtain ⟨q1, q2⟩ := hL.afterCall hH hfR g r1
        exact hK x ρ' lam w' (.vr hv) { q2 with keep := fun r hr ho _ => q2.keep r hr ho (fun _ h => h.elim) } r1 q1.wide
      · cases he
    · cases he
  · rename_i hw
    have hwf : wanted fr vo.guard = false := by simpa using hw
    simp only [Option.some.injEq, Prod.mk.injEq] at he
    obtain ⟨rfl, rfl, rfl⟩ := he
    simp only [hwf, Bool.false_eq_true, if_false]
    refine ⟨fun _ _ => trivial, ?_⟩
    exact hK ux ρ lam w .undef Grow.refl hH hL.wide

end

/-! slim operations, one by one -/
theorem slimOper_spec {P : Program} {glob : List Nat} {nt : Nat} {ops : Array Oper} {o : Oper} {vo : VOper} (h : slimOper P glob nt ops o = some vo) :
    slimOp P glob o = some vo.op ∧ vo.dst = o.dst ∧ (∀ d, o.dst = some d → d < nt) ∧
    (match o.guard with | none => vo.guard = none | some (j, want) => ∃ s, (ops[j]?).bind (·.dst) = some s ∧ vo.guard = some (s, want)) := by
  unfold slimOper at h
  split at h
  · cases h
  rename_i v hv
  split at h
  case isFalse => cases h
  rename_i hd
  have hd' : ∀ d, o.dst = some d → d < nt := by
    intro d e; rw [e] at hd; simpa [dstOk] using hd
  split at h
  · rename_i hgd
    cases h
    exact ⟨hv, rfl, hd', by rw [hgd]⟩
  · rename_i j want hgd
    split at h
    · rename_i s hs
      cases h
      refine ⟨hv, rfl, hd', ?_⟩
      rw [hgd]
      exact ⟨s, hs, rfl⟩
    · cases h

theorem slimOpers_get {P : Program} {glob : List Nat} {nt : Nat} {ops : Array Oper} : ∀ {l : List Oper} {vl : List VOper}, slimOpers P glob nt ops l = some vl →
    vl.length = l.length ∧ ∀ (i : Nat) (o : Oper), l[i]? = some o → ∃ vo, vl[i]? = some vo ∧ slimOper P glob nt ops o = some vo
  | [], vl, h => by simp [slimOpers] at h; subst h; exact ⟨rfl, fun i o h => by simp at h⟩
  | x :: xs, vl, h => by
    simp only [slimOpers] at h
    split at h
    · rename_i p q hp hq
      cases h
      obtain ⟨h1, h2⟩ := slimOpers_get hq
      refine ⟨by simp [h1], fun i o hi => ?_⟩
      cases i with
      | zero => simp at hi; subst hi; exact ⟨p, by simp, hp⟩
      | succ i => simp at hi; obtain ⟨vo, e1, e2⟩ := h2 i o hi; exact ⟨vo, by simpa using e1, e2⟩
    · cases h

/-- the whole state, and what it stands for -/
structure Stands (ρ : Loc) (lam : Lam) (s : St) (a : Act) (w : World) : Prop where
  fr : FRel ρ lam s.fr a.tmps
  H : RelH ρ s.H w
  L : RelL (fun _ => True) ρ lam s.L w

section
variable {P : Program} {call : CallFn} {lim : Nat} {ρ : Loc} {lam : Lam} {w : World} {a : Act} {ops : Array Oper} {s s' : St} {r : Option Nat}

/-- a step behind which the frame is put -/
theorem Stands.put {ρ' : Loc} {lam' : Lam} {w' : World} {v : V} {x : Value} {L' : Lo} {H' : Hp} {dst : Option Nat} (h : Stands ρ lam s a w) (hv : FV ρ' lam' v x) {tg : Nat → Prop} (g : Grow lim tg ρ lam s.L s.H w ρ' lam' L' H' w')
    (hfR : FreeR ρ s.H.length H'.length) (hfL : FreeL lam s.L.length L'.length) (h1 : RelH ρ' H' w') (h2 : RelL (fun _ => True) ρ' lam' L' w') (hd : ∀ d, dst = some d → d < a.tmps.size) :
    Stands ρ' lam' ⟨putD s.fr dst v, L', H'⟩ (a.put dst x) w' :=
  ⟨(h.fr.mono (g.leR hfR) (g.leL hfL)).put hv hd, h1, h2⟩

theorem evStep_spec {o : VOper} (h : evStep call lim o s = some s') : ∃ v, evVal call lim o s = some (v, s'.L, s'.H) ∧ s'.fr = putD s.fr o.dst v := by
  unfold evStep at h
  split at h
  · rename_i v L H hv
    cases h
    exact ⟨v, hv, rfl⟩
  · cases h

theorem evOps_len (hc : CallExt call) : ∀ {l : List VOper} {s s' : St}, evOps call lim l s = some s' → s.H.length ≤ s'.H.length ∧ s.L.length ≤ s'.L.length
  | [], s, s', h => by simp [evOps] at h; subst h; exact ⟨Nat.le_refl _, Nat.le_refl _⟩
  | o :: l, s, s', h => by
    simp only [evOps] at h
    split at h
    · rename_i s1 h1
      obtain ⟨v, hv, _⟩ := evStep_spec h1
      obtain ⟨e1, e2, _⟩ := evVal_ext hc hv
      obtain ⟨f1, f2⟩ := evOps_len hc h
      exact ⟨Nat.le_trans e1.1 f1, Nat.le_trans e2 f2⟩
    · cases h

theorem seq_sim {glob : List Nat} {nt : Nat} {Q : Exit → Act → World → Prop} (hcall : CallOk P call) (hc : CallExt call) :
    ∀ (vl : List VOper) (k : Nat) (s s' : St) (ρ : Loc) (lam : Lam) (a : Act) (w : World), (∀ i vo, vl[i]? = some vo → ∃ o, ops[k + i]? = some o ∧ slimOp P glob o = some vo.op ∧ vo.dst = o.dst ∧ (∀ d, o.dst = some d → d < nt) ∧
        (match o.guard with | none => vo.guard = none | some (j, want) => ∃ s, (ops[j]?).bind (·.dst) = some s ∧ vo.guard = some (s, want))) →
      evOps call lim vl s = some s' → nt ≤ a.tmps.size → Stands ρ lam s a w → FreeR ρ s.H.length s'.H.length → FreeL lam s.L.length s'.L.length →
      (∀ a' ρ' lam' w', a'.defers = a.defers → a'.tmps.size = a.tmps.size → Stands ρ' lam' s' a' w' → Grow lim (fun _ => True) ρ lam s.L s.H w ρ' lam' s'.L s'.H w' → Q .normal a' w') →
      wpOpsIn (rF r) 0 P ops Q (List.range' k vl.length) a w
  | [], k, s, s', ρ, lam, a, w, _, he, _, hst, _, _, hQ => by
    simp [evOps] at he; subst he
    exact hQ a ρ lam w rfl rfl hst Grow.refl
  | vo :: vl, k, s, s', ρ, lam, a, w, hops, he, hnt, hst, hfR, hfL, hQ => by
    simp only [evOps] at he
    split at he
    case h_2 => cases he
    rename_i s1 h1
    obtain ⟨v, hv, hfr⟩ := evStep_spec h1
    obtain ⟨o, ho, hsl, hdst, hd, hg⟩ := hops 0 vo (by simp)
    obtain ⟨x0, x2, x3⟩ := evVal_ext hc hv
    have x1 := x0.1
    obtain ⟨y1, y2⟩ := evOps_len hc he
    rw [List.length_cons, List.range'_succ, wpOpsIn_cons]
    have hfR1 : FreeR ρ s.H.length s1.H.length := fun b h1 h2 => hfR b h1 (by omega)
    have hfL1 : FreeL lam s.L.length s1.L.length := fun b h1 h2 => hfL b h1 (by omega)
    refine step_sim (A := fun _ => True) (nt := nt) hcall (by simpa using ho) hsl hg hv hst.fr hst.H hst.L (fun _ _ _ => trivial) hfR1 hfL1 (fun x ρ' lam' w' hx g r1 r2 => ?_)
    have r2' : RelL (fun _ => True) ρ' lam' s1.L w' := ⟨r2.dom, r2.inj, r2.disj, fun id r cs _ hi hcs => r2.row id r cs (Or.inl trivial) hi hcs⟩
    have hst1 : Stands ρ' lam' s1 (a.put o.dst x) w' := by
      have := hst.put (dst := o.dst) hx g hfR1 hfL1 r1 r2' (fun d e => Nat.lt_of_lt_of_le (hd d e) hnt)
      rw [← hdst] at this ⊢
      rw [← hfr] at this
      exact this
    refine seq_sim (glob := glob) (nt := nt) hcall hc vl (k + 1) s1 s' ρ' lam' (a.put o.dst x) w' (fun i vo' hi => ?_) he (by rw [size_put]; exact hnt) hst1 (g.freeR (Nat.le_refl _) fun b h1 h2 => hfR b (by omega) h2) (g.freeL (Nat.le_refl _) fun b h1 h2 => hfL b (by omega) h2) (fun a' ρ'' lam'' w'' e1 e2 hs'' g2 => ?_)
    · have := hops (i + 1) vo' (by simpa using hi)
      rw [show k + 1 + i = k + (i + 1) by omega]; exact this
    · refine hQ a' ρ'' lam'' w'' ?_ (by rw [e2, size_put]) hs'' ?_
      · rw [e1]; cases o.dst <;> rfl
      · exact Grow.trans g.tgTrue g2 r2'.dom

end
end Go.Proofs.YtpdnbmnnkefedaaGreatDoor.Vm
