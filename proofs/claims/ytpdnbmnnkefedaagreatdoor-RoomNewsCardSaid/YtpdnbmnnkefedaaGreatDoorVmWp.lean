/- The machine's rules of proof: what code and calls come to, whatever the fuel. -/
import Derived.Test.YtpdnbmnnkefedaaGreatDoorVmFn
namespace Go.Proofs.YtpdnbmnnkefedaaGreatDoor.Vm
open Go
set_option linter.unusedVariables false
set_option linter.unusedSimpArgs false

/-! more fuel, the same answer -/
def CLe (c c' : CallFn) : Prop := ∀ lim f args H r, c lim f args H = some r → c' lim f args H = some r

section
variable {c c' : CallFn} {lim : Nat}
theorem CLe.refl : CLe c c := fun _ _ _ _ _ h => h

theorem evVal_le (h : CLe c c') {o : VOper} {s : St} {r : V × Lo × Hp} (he : evVal c lim o s = some r) : evVal c' lim o s = some r := by
  unfold evVal at he ⊢
  split at he
  · rename_i hw
    rw [if_pos hw]
    split at he
    · exact he
    · rename_i f args h1
      split at he
      · rename_i v H h2
        simp only [h _ _ _ _ _ h2]; exact he
      · cases he
    · cases he
  · rename_i hw
    rw [if_neg hw]; exact he

theorem evStep_le (h : CLe c c') {o : VOper} {s s' : St} (he : evStep c lim o s = some s') : evStep c' lim o s = some s' := by
  unfold evStep at he ⊢
  split at he
  · rename_i h1; rw [evVal_le h h1]; exact he
  · cases he

theorem evOps_le (h : CLe c c') : ∀ {l : List VOper} {s s' : St}, evOps c lim l s = some s' → evOps c' lim l s = some s'
  | [], s, s', he => he
  | o :: l, s, s', he => by
    simp only [evOps] at he ⊢
    split at he
    · rename_i s1 h1
      rw [evStep_le h h1]; exact evOps_le h he
    · cases he

theorem evHead_le (h : CLe c c') : ∀ {l : List VOper} {k : Nat} {s s' : St} {acc : List (Nat × Nat)}, evHead c k l s acc = some s' → evHead c' k l s acc = some s'
  | [], k, s, s', acc, he => he
  | o :: l, k, s, s', acc, he => by
    simp only [evHead] at he ⊢
    split at he
    · cases he
    · rename_i acc' h0
      split at he
      · rename_i s1 h1
        rw [evStep_le h h1]; exact evHead_le h he
      · cases he

theorem evHeadS_le (h : CLe c c') : ∀ {l : List VOper} {k : Nat} {s s' : St} {acc : List (Nat × Nat)} {hp : HpAcc}, evHeadS c lim k l s acc hp = some s' → evHeadS c' lim k l s acc hp = some s'
  | [], k, s, s', acc, hp, he => he
  | o :: l, k, s, s', acc, hp, he => by
    simp only [evHeadS] at he ⊢
    split at he
    · cases he
    · rename_i acc' hp' h0
      split at he
      · rename_i s1 h1
        rw [evStep_le h h1]; exact evHeadS_le h he
      · cases he

theorem evCode_le (h : CLe c c') : ∀ {n m : Nat} {x : VCode} {s : St} {r : VExit × St}, n ≤ m → evCode c lim n x s = some r → evCode c' lim m x s = some r
  | 0, m, x, s, r, hnm, he => by simp [evCode] at he
  | n + 1, 0, x, s, r, hnm, he => absurd hnm (by omega)
  | n + 1, m + 1, x, s, r, hnm, he => by
    have ih := fun {x : VCode} {s : St} {r : VExit × St} => evCode_le h (n := n) (m := m) (x := x) (s := s) (r := r) (by omega)
    cases x with
    | skip => simp only [evCode] at he ⊢; exact he
    | exit id => simp only [evCode] at he ⊢; exact he
    | ret => simp only [evCode] at he ⊢; exact he
    | reg ops =>
      simp only [evCode] at he ⊢
      split at he
      · rename_i s1 h1; rw [evOps_le h h1]; exact he
      · cases he
    | draw hd tl =>
      simp only [evCode] at he ⊢
      split at he
      case h_2 => cases he
      rename_i s1 h1
      split at he
      case h_2 => cases he
      rename_i s2 h2
      simp only [evHead_le h h1, evOps_le h h2]; exact he
    | drawS hd tl =>
      simp only [evCode] at he ⊢
      split at he
      case h_2 => cases he
      rename_i s1 h1
      split at he
      case h_2 => cases he
      rename_i s2 h2
      simp only [evHeadS_le h h1, evOps_le h h2]; exact he
    | seq a b =>
      simp only [evCode] at he ⊢
      split at he
      · rename_i s1 h1
        simp only [ih h1]; exact ih he
      · rename_i hne
        rw [ih he]
        split
        · rename_i s1 h1; cases h1; exact absurd he (hne s1)
        · rfl
    | cond cc a b =>
      simp only [evCode] at he ⊢
      split at he
      · exact ih he
      · exact ih he
      · cases he
    | block id body =>
      simp only [evCode] at he ⊢
      split at he
      · rename_i id' s1 h1
        simp only [ih h1]; exact he
      · rename_i hne
        rw [ih he]
        split
        · rename_i id' s1 h1; cases h1; exact absurd he (hne id' s1)
        · rfl
    | loop body =>
      simp only [evCode] at he ⊢
      split at he
      · rename_i s1 h1
        simp only [ih h1]; exact ih he
      · rename_i hne
        rw [ih he]
        split
        · rename_i s1 h1; cases h1; exact absurd he (hne s1)
        · rfl
    | scope body =>
      simp only [evCode] at he ⊢
      exact ih he
    | stuck => simp [evCode] at he
    | prim _ => simp [evCode] at he
    | rangeF g f ps nt =>
      simp only [evCode] at he ⊢
      split at he
      case h_2 => cases he
      rename_i hh fs cs hq
      split at he
      · cases he
      rename_i hny
      split at he
      case h_2 => cases he
      rename_i v H2 h1
      simp only [if_neg hny, h _ _ _ _ _ h1]
      exact he
theorem evYield_le {T : Tbl} (h : CLe c c') {n m : Nat} (hnm : n ≤ m) {H : Hp} {args : List V} {r : V × Hp} (he : evYield T c n lim H args = some r) : evYield T c' m lim H args = some r := by
  obtain ⟨v, H'⟩ := r
  obtain ⟨b, xs, f, ps, fr, vf, x, y, s1, f1, ps1, fr1, s, rfl, hb, hl, hlen, hvf, hnp, hbody, h1, hb1, h2, hd, rfl, rfl, hge⟩ := evYield_spec he
  unfold evYield
  simp only [hb, hl, hlen, hge, and_self, if_true, hvf, hnp, hbody, evCode_le h hnm h1, hb1, evCode_le h hnm h2, hd]
end

theorem evFn_le (T : Tbl) : ∀ {n m : Nat}, n ≤ m → CLe (evFn T n) (evFn T m)
  | 0, m, _ => fun lim f args H r h => by simp [evFn] at h
  | n + 1, 0, h => absurd h (by omega)
  | n + 1, m + 1, h => fun lim f args H r he => by
    have ih := evFn_le T (n := n) (m := m) (by omega)
    simp only [evFn] at he ⊢
    by_cases hy : f = yB
    · rw [if_pos hy] at he ⊢
      exact evYield_le ih (by omega) he
    rw [if_neg hy] at he ⊢
    split at he
    · cases he
    rename_i hrb
    rw [if_neg hrb]
    split at he
    · cases he
    · rename_i vf hvf
      split at he
      · rename_i hl
        rw [if_pos hl]
        split at he
        · exact he
        split at he
        · cases he
        · rename_i e s hne h1
          rw [evCode_le ih (show n ≤ m by omega) h1]
          split at he
          · rename_i v hv
            cases e with
            | normal => simp only [hv]; exact he
            | ret => simp only [hv]; exact he
            | exit id => exact (hne id rfl).elim
          · cases he
        · cases he
      · cases he

/-! calls, whatever the fuel -/
def VCall (T : Tbl) (lim : Nat) (f : FuncId) (args : List V) (H : Hp) (K : V → Hp → Prop) : Prop := ∃ n v H', evFn T n lim f args H = some (v, H') ∧ K v H'

theorem VCall.mono {T : Tbl} {lim : Nat} {f : FuncId} {args : List V} {H : Hp} {K K' : V → Hp → Prop} (h : VCall T lim f args H K) (hk : ∀ v H', K v H' → K' v H') : VCall T lim f args H K' := by
  obtain ⟨n, v, H', h1, h2⟩ := h
  exact ⟨n, v, H', h1, hk _ _ h2⟩

def wVal (T : Tbl) (lim : Nat) (o : VOper) (s : St) (K : V → Lo → Hp → Prop) : Prop :=
  if wanted s.fr o.guard then
    match evOp lim s.fr s.L s.H o.op with
    | some (.val v L H) => K v L H
    | some (.call f args) => VCall T lim f args s.H fun v H => K v s.L H
    | none => False
  else K dv s.L s.H

def wOps (T : Tbl) (lim : Nat) : List VOper → (St → Prop) → St → Prop
  | [], K, s => K s
  | o :: rest, K, s => wVal T lim o s fun v L H => wOps T lim rest K ⟨putD s.fr o.dst v, L, H⟩

def wHead (T : Tbl) : Nat → List VOper → List (Nat × Nat) → (St → Prop) → St → Prop
  | _, [], _, K, s => K s
  | k, o :: rest, acc, K, s => match headAcc o k s acc with
    | none => False
    | some acc' => wVal T s.H.length o s fun v L H => wHead T (k + 1) rest acc' K ⟨putD s.fr o.dst v, L, H⟩

def wHeadS (T : Tbl) (lim : Nat) : Nat → List VOper → List (Nat × Nat) → HpAcc → (St → Prop) → St → Prop
  | _, [], _, _, K, s => K s
  | k, o :: rest, acc, hp, K, s => match headAccS o k s acc hp with
    | none => False
    | some (acc', hp') => wVal T (headLim lim o.op s) o s fun v L H => wHeadS T lim (k + 1) rest acc' hp' K ⟨putD s.fr o.dst v, L, H⟩

def seqQ (K : St → Prop) (Q : VExit → St → Prop) : VExit → St → Prop
  | .normal, s => K s
  | .exit id, s => Q (.exit id) s
  | .ret, s => Q .ret s
def blockQ (id : Nat) (Q : VExit → St → Prop) : VExit → St → Prop
  | .normal, s => Q .normal s
  | .exit id', s => if id' = id then Q .normal s else Q (.exit id') s
  | .ret, s => Q .ret s

def wSem (T : Tbl) (lim : Nat) (c : VCode) (Q : VExit → St → Prop) (s : St) : Prop := ∃ n e s', evCode (evFn T n) lim n c s = some (e, s') ∧ Q e s'

def wCode (T : Tbl) (lim : Nat) : VCode → (VExit → St → Prop) → St → Prop
  | .skip, Q, s => Q .normal s
  | .reg ops, Q, s => wOps T lim ops (Q .normal) s
  | .draw h t, Q, s => wHead T 0 h [] (wOps T lim t (Q .normal)) s
  | .drawS h t, Q, s => wHeadS T lim 0 h [] ([], false) (wOps T lim t (Q .normal)) s
  | .seq a b, Q, s => wCode T lim a (seqQ (wCode T lim b Q) Q) s
  | .cond c a b, Q, s => match opd s.fr c with
    | .bool true => wCode T lim a Q s
    | .bool false => wCode T lim b Q s
    | _ => False
  | .block id body, Q, s => wCode T lim body (blockQ id Q) s
  | .loop body, Q, s => wSem T lim (.loop body) Q s
  | .scope body, Q, s => wCode T lim body Q s
  | .exit id, Q, s => Q (.exit id) s
  | .ret, Q, s => Q .ret s
  | .stuck, _, _ => False
  | .prim _, _, _ => False
  | .rangeF g f ps nt, Q, s => match opd s.fr g with
    | .func (.func h) fs cs => h ≠ yB ∧ VCall T lim h (fs ++ [.yl s.H.length] ++ cs) (s.H ++ [.loop f ps (hideF s.fr nt)]) fun _ H2 => ∃ f2 ps2 fr2, H2[s.H.length]? = some (.loop f2 ps2 fr2) ∧ Q .normal ⟨s.fr, s.L, H2.set s.H.length .dead⟩
    | _ => False

section
variable {T : Tbl} {lim : Nat}

theorem wVal_sound {o : VOper} {s : St} {K : V → Lo → Hp → Prop} (h : wVal T lim o s K) : ∃ n v L H, evVal (evFn T n) lim o s = some (v, L, H) ∧ K v L H := by
  unfold wVal at h
  split at h
  · rename_i hw
    split at h
    · rename_i v L H h1
      exact ⟨0, v, L, H, by simp [evVal, hw, h1], h⟩
    · rename_i f args h1
      obtain ⟨n, v, H, h2, h3⟩ := h
      exact ⟨n, v, s.L, H, by simp [evVal, hw, h1, h2], h3⟩
    · cases h
  · rename_i hw
    exact ⟨0, dv, s.L, s.H, by simp [evVal, hw], h⟩

theorem wOps_sound : ∀ {l : List VOper} {s : St} {K : St → Prop}, wOps T lim l K s → ∃ n s', evOps (evFn T n) lim l s = some s' ∧ K s'
  | [], s, K, h => ⟨0, s, rfl, h⟩
  | o :: l, s, K, h => by
    obtain ⟨n, v, L, H, h1, h2⟩ := wVal_sound h
    obtain ⟨m, s', h3, h4⟩ := wOps_sound h2
    refine ⟨max n m, s', ?_, h4⟩
    have e1 := evVal_le (evFn_le T (Nat.le_max_left n m)) h1
    simp only [evOps, evStep, e1]
    exact evOps_le (evFn_le T (Nat.le_max_right n m)) h3

theorem wHead_sound : ∀ {l : List VOper} {k : Nat} {acc : List (Nat × Nat)} {s : St} {K : St → Prop}, wHead T k l acc K s → ∃ n s', evHead (evFn T n) k l s acc = some s' ∧ K s'
  | [], k, acc, s, K, h => ⟨0, s, rfl, h⟩
  | o :: l, k, acc, s, K, h => by
    simp only [wHead] at h
    split at h
    · cases h
    rename_i acc' h0
    obtain ⟨n, v, L, H, h1, h2⟩ := wVal_sound h
    obtain ⟨m, s', h3, h4⟩ := wHead_sound h2
    refine ⟨max n m, s', ?_, h4⟩
    have e1 := evVal_le (evFn_le T (Nat.le_max_left n m)) h1
    simp only [evHead, h0, evStep, e1]
    exact evHead_le (evFn_le T (Nat.le_max_right n m)) h3

theorem wHeadS_sound : ∀ {l : List VOper} {k : Nat} {acc : List (Nat × Nat)} {hp : HpAcc} {s : St} {K : St → Prop}, wHeadS T lim k l acc hp K s → ∃ n s', evHeadS (evFn T n) lim k l s acc hp = some s' ∧ K s'
  | [], k, acc, hp, s, K, h => ⟨0, s, rfl, h⟩
  | o :: l, k, acc, hp, s, K, h => by
    simp only [wHeadS] at h
    split at h
    · cases h
    rename_i acc' hp' h0
    obtain ⟨n, v, L, H, h1, h2⟩ := wVal_sound h
    obtain ⟨m, s', h3, h4⟩ := wHeadS_sound h2
    refine ⟨max n m, s', ?_, h4⟩
    have e1 := evVal_le (evFn_le T (Nat.le_max_left n m)) h1
    simp only [evHeadS, h0, evStep, e1]
    exact evHeadS_le (evFn_le T (Nat.le_max_right n m)) h3

theorem evCode_le' {n m : Nat} (h : n ≤ m) {c : VCode} {s : St} {r : VExit × St} (he : evCode (evFn T n) lim n c s = some r) : evCode (evFn T m) lim m c s = some r := evCode_le (evFn_le T h) h he

theorem wCode_sound : ∀ {c : VCode} {Q : VExit → St → Prop} {s : St}, wCode T lim c Q s → wSem T lim c Q s
  | .skip, Q, s, h => ⟨1, .normal, s, rfl, h⟩
  | .prim _, Q, s, h => h.elim
  | .exit id, Q, s, h => ⟨1, .exit id, s, rfl, h⟩
  | .ret, Q, s, h => ⟨1, .ret, s, rfl, h⟩
  | .reg ops, Q, s, h => by
    obtain ⟨n, s', h1, h2⟩ := wOps_sound h
    refine ⟨n + 1, .normal, s', ?_, h2⟩
    simp only [evCode, evOps_le (evFn_le T (Nat.le_succ n)) h1]
  | .draw hd tl, Q, s, h => by
    obtain ⟨n, s', h1, h2⟩ := wHead_sound h
    obtain ⟨m, s'', h3, h4⟩ := wOps_sound h2
    refine ⟨max n m + 1, .normal, s'', ?_, h4⟩
    simp only [evCode, evHead_le (evFn_le T (show n ≤ max n m + 1 by omega)) h1, evOps_le (evFn_le T (show m ≤ max n m + 1 by omega)) h3]
  | .drawS hd tl, Q, s, h => by
    obtain ⟨n, s', h1, h2⟩ := wHeadS_sound h
    obtain ⟨m, s'', h3, h4⟩ := wOps_sound h2
    refine ⟨max n m + 1, .normal, s'', ?_, h4⟩
    simp only [evCode, evHeadS_le (evFn_le T (show n ≤ max n m + 1 by omega)) h1, evOps_le (evFn_le T (show m ≤ max n m + 1 by omega)) h3]
  | .seq a b, Q, s, h => by
    obtain ⟨n, e, s', h1, h2⟩ := wCode_sound (c := a) h
    cases e with
    | normal =>
      obtain ⟨m, e', s'', h3, h4⟩ := wCode_sound (c := b) h2
      refine ⟨max n m + 1, e', s'', ?_, h4⟩
      simp only [evCode, evCode_le (evFn_le T (show n ≤ max n m + 1 by omega)) (show n ≤ max n m by omega) h1]
      exact evCode_le (evFn_le T (show m ≤ max n m + 1 by omega)) (show m ≤ max n m by omega) h3
    | exit id => exact ⟨n + 1, .exit id, s', by simp only [evCode, evCode_le (evFn_le T (Nat.le_succ n)) (Nat.le_refl n) h1], h2⟩
    | ret => exact ⟨n + 1, .ret, s', by simp only [evCode, evCode_le (evFn_le T (Nat.le_succ n)) (Nat.le_refl n) h1], h2⟩
  | .cond c a b, Q, s, h => by
    simp only [wCode] at h
    split at h
    · rename_i hc
      obtain ⟨n, e, s', h1, h2⟩ := wCode_sound (c := a) h
      exact ⟨n + 1, e, s', by simp only [evCode, hc]; exact evCode_le (evFn_le T (Nat.le_succ n)) (Nat.le_refl n) h1, h2⟩
    · rename_i hc
      obtain ⟨n, e, s', h1, h2⟩ := wCode_sound (c := b) h
      exact ⟨n + 1, e, s', by simp only [evCode, hc]; exact evCode_le (evFn_le T (Nat.le_succ n)) (Nat.le_refl n) h1, h2⟩
    · cases h
  | .block id body, Q, s, h => by
    obtain ⟨n, e, s', h1, h2⟩ := wCode_sound (c := body) h
    have h1' := evCode_le (evFn_le T (Nat.le_succ n)) (Nat.le_refl n) h1
    cases e with
    | normal => exact ⟨n + 1, .normal, s', by simp only [evCode, h1'], h2⟩
    | ret => exact ⟨n + 1, .ret, s', by simp only [evCode, h1'], h2⟩
    | exit id' =>
      simp only [blockQ] at h2
      by_cases e : id' = id
      · rw [if_pos e] at h2
        exact ⟨n + 1, .normal, s', by simp only [evCode, h1', e, if_true], h2⟩
      · rw [if_neg e] at h2
        exact ⟨n + 1, .exit id', s', by simp only [evCode, h1', e, if_false], h2⟩
  | .loop body, Q, s, h => h
  | .stuck, Q, s, h => h.elim
  | .rangeF g f ps nt, Q, s, h => by
    simp only [wCode] at h
    split at h
    case h_2 => cases h
    rename_i hh fs cs hq
    obtain ⟨hny, n, v, H2, h1, f2, ps2, fr2, h2, h3⟩ := h
    refine ⟨n + 1, .normal, _, ?_, h3⟩
    simp only [evCode, hq, if_neg hny, evFn_le T (Nat.le_succ n) _ _ _ _ _ h1, h2]
  | .scope body, Q, s, h => by
    obtain ⟨n, e, s', h1, h2⟩ := wCode_sound (c := body) h
    exact ⟨n + 1, e, s', by simp only [evCode]; exact evCode_le (evFn_le T (Nat.le_succ n)) (Nat.le_refl n) h1, h2⟩

/-- one round of a loop -/
theorem wLoop_round {body : VCode} {Q : VExit → St → Prop} {s : St} (h : wCode T lim body (seqQ (wCode T lim (.loop body) Q) Q) s) : wCode T lim (.loop body) Q s := by
  obtain ⟨n, e, s', h1, h2⟩ := wCode_sound h
  show wSem T lim (.loop body) Q s
  cases e with
  | normal =>
    obtain ⟨m, e', s'', h3, h4⟩ := h2
    refine ⟨max n m + 1, e', s'', ?_, h4⟩
    simp only [evCode, evCode_le (evFn_le T (show n ≤ max n m + 1 by omega)) (show n ≤ max n m by omega) h1]
    exact evCode_le (evFn_le T (show m ≤ max n m + 1 by omega)) (show m ≤ max n m by omega) h3
  | exit id => exact ⟨n + 1, .exit id, s', by simp only [evCode, evCode_le (evFn_le T (Nat.le_succ n)) (Nat.le_refl n) h1], h2⟩
  | ret => exact ⟨n + 1, .ret, s', by simp only [evCode, evCode_le (evFn_le T (Nat.le_succ n)) (Nat.le_refl n) h1], h2⟩

theorem wCode_mono : ∀ {c : VCode} {Q Q' : VExit → St → Prop} {s : St}, wCode T lim c Q s → (∀ e s, Q e s → Q' e s) → wSem T lim c Q' s := by
  intro c Q Q' s h hq
  obtain ⟨n, e, s', h1, h2⟩ := wCode_sound h
  exact ⟨n, e, s', h1, hq e s' h2⟩

/-- a loop, by an invariant with a number that falls -/
theorem wLoop_inv {body : VCode} {Q : VExit → St → Prop} (I : Nat → St → Prop) (round : ∀ n s, I n s → wCode T lim body (seqQ (fun s' => ∃ m, m < n ∧ I m s') Q) s) : ∀ {n : Nat} {s : St}, I n s → wCode T lim (.loop body) Q s := by
  intro n
  induction n using Nat.strongRecOn with
  | _ n ih =>
    intro s hI
    obtain ⟨k, e, s', h1, h2⟩ := wCode_sound (round n s hI)
    show wSem T lim (.loop body) Q s
    cases e with
    | normal =>
      obtain ⟨m, hm, hIm⟩ := h2
      obtain ⟨j, e', s'', h3, h4⟩ := ih m hm hIm
      refine ⟨max k j + 1, e', s'', ?_, h4⟩
      simp only [evCode, evCode_le (evFn_le T (show k ≤ max k j + 1 by omega)) (show k ≤ max k j by omega) h1]
      exact evCode_le (evFn_le T (show j ≤ max k j + 1 by omega)) (show j ≤ max k j by omega) h3
    | exit id => exact ⟨k + 1, .exit id, s', by simp only [evCode, evCode_le (evFn_le T (Nat.le_succ k)) (Nat.le_refl k) h1], h2⟩
    | ret => exact ⟨k + 1, .ret, s', by simp only [evCode, evCode_le (evFn_le T (Nat.le_succ k)) (Nat.le_refl k) h1], h2⟩

/-- what a function leaves -/
def fnQ (rs : List VRes) (K : V → Hp → Prop) : VExit → St → Prop
  | .exit _, _ => False
  | .normal, s => match vres rs s.fr s.L s.H with
    | some v => K v s.H
    | none => False
  | .ret, s => match vres rs s.fr s.L s.H with
    | some v => K v s.H
    | none => False

theorem VCall_fn {f : FuncId} {vf : VFn} {args : List V} {H : Hp} {K : V → Hp → Prop} (hf : T f = some vf) (hl : args.length = vf.nparams) (h : wCode T lim vf.body (fnQ vf.results K) ⟨fr0 args, [], H⟩) (hfB : f ≠ yB ∧ ¬ rB ≤ f := by decide) (hpr : primOf vf.body = none := by rfl) : VCall T lim f args H K := by
  obtain ⟨n, e, s, h1, h2⟩ := wCode_sound h
  cases e with
  | exit id => exact h2.elim
  | normal =>
    simp only [fnQ] at h2
    split at h2
    · rename_i v hv
      exact ⟨n + 1, v, s.H, by simp only [evFn, if_neg hfB.1, if_neg hfB.2, hf, hl, if_true, hpr, h1, hv], h2⟩
    · cases h2
  | ret =>
    simp only [fnQ] at h2
    split at h2
    · rename_i v hv
      exact ⟨n + 1, v, s.H, by simp only [evFn, if_neg hfB.1, if_neg hfB.2, hf, hl, if_true, hpr, h1, hv], h2⟩
    · cases h2

/-- a function whose contract is given -/
theorem VCall_prim {f : FuncId} {vf : VFn} {g : PrimF} {args : List V} {H : Hp} {K : V → Hp → Prop} {v : V} {bs : List Blk} (hf : T f = some vf) (hp : primOf vf.body = some g) (hl : args.length = vf.nparams) (hg : g args H = some (v, bs)) (h : K v (H ++ bs)) (hfB : f ≠ yB ∧ ¬ rB ≤ f := by decide) : VCall T lim f args H K :=
  ⟨1, v, H ++ bs, by simp only [evFn, if_neg hfB.1, if_neg hfB.2, hf, hl, if_true, hp, hg], h⟩

/-- a round -/
theorem VCall_yield {b : Nat} {xs : List V} {f : FuncId} {ps : List Nat} {fr : List V} {vf : VFn} {x y : VCode} {H : Hp} {K : V → Hp → Prop} (hb : H[b]? = some (.loop f ps fr)) (hl : lim ≤ b) (hlen : xs.length = ps.length) (hf : T f = some vf) (hn : vf.nparams = fr.length) (hbody : vf.body = .seq x y)
    (h : wCode T lim x (seqQ (fun s1 => (∃ f1 ps1 fr1, s1.H[b]? = some (.loop f1 ps1 fr1)) ∧ wCode T lim y (seqQ (fun s => s.H[b]? = some .dead ∧ K (.bool true) (s.H.set b (.loop f ps fr))) (fun _ _ => False)) ⟨s1.fr, s1.L, s1.H.set b .dead⟩) (fun _ _ => False)) ⟨frR (setPs fr ps xs), [], H⟩)
    (hge : rB ≤ f := by decide) : VCall T lim yB (.yl b :: xs) H K := by
  obtain ⟨n, e, s1, h1, h2⟩ := wCode_sound h
  cases e with
  | exit id => exact h2.elim
  | ret => exact h2.elim
  | normal =>
    obtain ⟨⟨f1, ps1, fr1, hb1⟩, h2⟩ := h2
    obtain ⟨m, e, s, h3, h4⟩ := wCode_sound h2
    cases e with
    | exit id => exact h4.elim
    | ret => exact h4.elim
    | normal =>
      obtain ⟨hd, hK⟩ := h4
      refine ⟨max n m + 1, .bool true, _, ?_, hK⟩
      simp only [evFn, if_true]
      unfold evYield
      simp only [hb, hl, hlen, hge, and_self, if_true, hf, hn, hbody, evCode_le' (Nat.le_max_left n m) h1, hb1, evCode_le' (Nat.le_max_right n m) h3, hd]

/-- A CALL OF THE MACHINE's IS THE MODEL's -/
theorem calls_of_vcall {P : Program} (hm : P.follows .mixedOrders = true) (hT : TblOk P T) {f : FuncId} {args : List V} {H : Hp} {K : V → Hp → Prop} (h : VCall T lim f args H K) {ρ : Loc} {w : World} {xs : Array Value}
    (hH : RelH ρ H w) (hG : GRel ρ) (hx : VRs ρ args xs.toList) (hfree : ∀ b, H.length ≤ b → ρ b = none) (hy : f ≠ yB) :
    Calls P f xs w fun e w' => ∃ v H' x ρ', K v H' ∧ e = .returned x ∧ VR ρ' v x ∧ Grow lim (fun _ => True) ρ (fun _ => none) [] H w ρ' (fun _ => none) [] H' w' ∧ RelH ρ' H' w' := by
  obtain ⟨n, v, H', h1, h2⟩ := h
  refine (((evFn_ok hm hT n lim f args H v H' h1).1 hy).2 ρ w xs hH hG hx fun b h3 _ => hfree b h3).mono ?_
  rintro e w' ⟨x, ρ', h3, h4, h5, h6⟩
  exact ⟨v, H', x, ρ', h2, h3, h4, h5, h6⟩

end
end Go.Proofs.YtpdnbmnnkefedaaGreatDoor.Vm
