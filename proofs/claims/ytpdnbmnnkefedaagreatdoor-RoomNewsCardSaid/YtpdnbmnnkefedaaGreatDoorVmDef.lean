/- Functions that defer one call (a lock given back): the machine's code, and what the model's call answers. -/
import Derived.Test.YtpdnbmnnkefedaaGreatDoorVmHand
import Derived.Test.YtpdnbmnnkefedaaGreatDoorVmPan
namespace Go.Proofs.YtpdnbmnnkefedaaGreatDoor.Vm
open Go Go.Conc.Locks
set_option linter.unusedVariables false
set_option linter.unusedSimpArgs false

/-! temporaries that a piece of code leaves alone -/
def dstL (q : Nat → Bool) : List VOper → Bool
  | [] => true
  | o :: rest => (match o.dst with | some d => !q d | none => true) && dstL q rest
def dstC (q : Nat → Bool) : VCode → Bool
  | .reg ops => dstL q ops
  | .draw h t | .drawS h t => dstL q h && dstL q t
  | .seq a b | .cond _ a b => dstC q a && dstC q b
  | .block _ a | .loop a | .scope a => dstC q a
  | _ => true
section
variable {call : CallFn} {lim : Nat} {q : Nat → Bool}
theorem step_fr {o : VOper} {s s' : St} (hd : (match o.dst with | some d => !q d | none => true) = true) (h : evStep call lim o s = some s') : ∀ t, q t = true → s'.fr t = s.fr t := by
  intro t ht
  unfold evStep at h
  split at h
  case h_2 => cases h
  cases h
  cases hq : o.dst with
  | none => rfl
  | some d =>
    rw [hq] at hd
    have h1 : q d = false := by simpa using hd
    simp only [putD, upd]
    rw [if_neg (fun e => by rw [e, h1] at ht; cases ht)]
theorem ops_fr : ∀ {l : List VOper} {s s' : St}, dstL q l = true → evOps call lim l s = some s' → ∀ t, q t = true → s'.fr t = s.fr t
  | [], s, s', _, h => by simp [evOps] at h; subst h; intro _ _; rfl
  | o :: l, s, s', hd, h => by
    simp only [dstL, Bool.and_eq_true] at hd
    simp only [evOps] at h
    split at h
    case h_2 => cases h
    rename_i s1 h1
    intro t ht
    rw [ops_fr hd.2 h t ht, step_fr hd.1 h1 t ht]
theorem head_fr : ∀ {l : List VOper} {k : Nat} {s s' : St} {acc : List (Nat × Nat)}, dstL q l = true → evHead call k l s acc = some s' → ∀ t, q t = true → s'.fr t = s.fr t
  | [], k, s, s', acc, _, h => by simp [evHead] at h; subst h; intro _ _; rfl
  | o :: l, k, s, s', acc, hd, h => by
    simp only [dstL, Bool.and_eq_true] at hd
    simp only [evHead] at h
    split at h
    · cases h
    split at h
    case h_2 => cases h
    rename_i s1 h1
    intro t ht
    rw [head_fr hd.2 h t ht, step_fr hd.1 h1 t ht]
theorem headS_fr : ∀ {l : List VOper} {k : Nat} {s s' : St} {acc : List (Nat × Nat)} {hp : HpAcc}, dstL q l = true → evHeadS call lim k l s acc hp = some s' → ∀ t, q t = true → s'.fr t = s.fr t
  | [], k, s, s', acc, hp, _, h => by simp [evHeadS] at h; subst h; intro _ _; rfl
  | o :: l, k, s, s', acc, hp, hd, h => by
    simp only [dstL, Bool.and_eq_true] at hd
    simp only [evHeadS] at h
    split at h
    · cases h
    split at h
    case h_2 => cases h
    rename_i s1 h1
    intro t ht
    rw [headS_fr hd.2 h t ht, step_fr hd.1 h1 t ht]
theorem code_fr : ∀ {n : Nat} {c : VCode} {s s' : St} {e : VExit}, dstC q c = true → evCode call lim n c s = some (e, s') → ∀ t, q t = true → s'.fr t = s.fr t
  | 0, c, s, s', e, _, h => by simp [evCode] at h
  | n + 1, c, s, s', e, hd, h => by
    intro t ht
    cases c with
    | skip => simp [evCode] at h; obtain ⟨_, rfl⟩ := h; rfl
    | exit id => simp [evCode] at h; obtain ⟨_, rfl⟩ := h; rfl
    | ret => simp [evCode] at h; obtain ⟨_, rfl⟩ := h; rfl
    | reg ops =>
      simp only [evCode] at h
      split at h
      · rename_i s1 h1; cases h; exact ops_fr hd h1 t ht
      · cases h
    | draw head tail =>
      simp only [dstC, Bool.and_eq_true] at hd
      simp only [evCode] at h
      split at h
      case h_2 => cases h
      rename_i s1 h1
      split at h
      case h_2 => cases h
      rename_i s2 h2
      cases h
      rw [ops_fr hd.2 h2 t ht, head_fr hd.1 h1 t ht]
    | drawS head tail =>
      simp only [dstC, Bool.and_eq_true] at hd
      simp only [evCode] at h
      split at h
      case h_2 => cases h
      rename_i s1 h1
      split at h
      case h_2 => cases h
      rename_i s2 h2
      cases h
      rw [ops_fr hd.2 h2 t ht, headS_fr hd.1 h1 t ht]
    | seq a b =>
      simp only [dstC, Bool.and_eq_true] at hd
      simp only [evCode] at h
      split at h
      · rename_i s1 h1
        rw [code_fr hd.2 h t ht, code_fr hd.1 h1 t ht]
      · exact code_fr hd.1 h t ht
    | cond c a b =>
      simp only [dstC, Bool.and_eq_true] at hd
      simp only [evCode] at h
      split at h
      · exact code_fr hd.1 h t ht
      · exact code_fr hd.2 h t ht
      · cases h
    | block id body =>
      simp only [evCode] at h
      split at h
      · rename_i id' s1 h1
        have := code_fr (c := body) hd h1 t ht
        split at h <;> (cases h; exact this)
      · exact code_fr (c := body) hd h t ht
    | loop body =>
      have hd0 : dstC q body = true := hd
      simp only [evCode] at h
      split at h
      · rename_i s1 h1
        rw [code_fr hd h t ht, code_fr hd0 h1 t ht]
      · exact code_fr hd0 h t ht
    | scope body =>
      simp only [evCode] at h
      exact code_fr (c := body) hd h t ht
    | stuck => simp [evCode] at h
    | prim _ => simp [evCode] at h
    | rangeF g f ps nt2 =>
      simp only [evCode] at h
      split at h
      case h_2 => cases h
      split at h
      · cases h
      split at h
      case h_2 => cases h
      split at h
      case h_2 => cases h
      cases h
      rfl
end
/-! the way out of a function, as the way out of a block -/
def retE (k : Nat) : VCode → VCode
  | .ret => .exit k
  | .seq a b => .seq (retE k a) (retE k b)
  | .cond c a b => .cond c (retE k a) (retE k b)
  | .block id a => .block id (retE k a)
  | .loop a => .loop (retE k a)
  | .scope a => .scope (retE k a)
  | c => c
def noId (k : Nat) : VCode → Bool
  | .exit id => id != k
  | .block id a => id != k && noId k a
  | .seq a b | .cond _ a b => noId k a && noId k b
  | .loop a | .scope a => noId k a
  | _ => true
def exE (k : Nat) : VExit → VExit
  | .ret => .exit k
  | e => e
section
variable {call : CallFn} {lim k : Nat}
theorem retE_ev : ∀ {n : Nat} {c : VCode} {s : St}, noId k c = true → evCode call lim n (retE k c) s = (evCode call lim n c s).map fun p => (exE k p.1, p.2)
  | 0, c, s, _ => by simp [evCode]
  | n + 1, c, s, hn => by
    cases c with
    | seq a b =>
      simp only [noId, Bool.and_eq_true] at hn
      simp only [retE, evCode, retE_ev (n := n) hn.1]
      cases ha : evCode call lim n a s with
      | none => rfl
      | some p =>
        obtain ⟨e, s1⟩ := p
        cases e with
        | normal => simp only [Option.map_some, exE]; exact retE_ev hn.2
        | exit id => rfl
        | ret => rfl
    | cond c a b =>
      simp only [noId, Bool.and_eq_true] at hn
      simp only [retE, evCode]
      split
      · exact retE_ev hn.1
      · exact retE_ev hn.2
      · rfl
    | block id a =>
      simp only [noId, Bool.and_eq_true, bne_iff_ne, ne_eq] at hn
      simp only [retE, evCode, retE_ev (n := n) hn.2]
      cases ha : evCode call lim n a s with
      | none => rfl
      | some p =>
        obtain ⟨e, s1⟩ := p
        cases e with
        | normal => rfl
        | exit id' => simp only [Option.map_some, exE]; split <;> rfl
        | ret => simp only [Option.map_some, exE]; rw [if_neg (fun e => hn.1 e.symm)]
    | loop a =>
      have hn0 : noId k a = true := hn
      simp only [retE, evCode, retE_ev (n := n) hn0]
      cases ha : evCode call lim n a s with
      | none => rfl
      | some p =>
        obtain ⟨e, s1⟩ := p
        cases e with
        | normal =>
          simp only [Option.map_some, exE]
          exact retE_ev (n := n) (c := .loop a) hn
        | exit id => rfl
        | ret => rfl
    | scope a => simp only [retE, evCode]; exact retE_ev (n := n) (c := a) hn
    | exit id => rfl
    | ret => rfl
    | skip => rfl
    | reg ops => simp only [retE, evCode]; split <;> rfl
    | draw h t => simp only [retE, evCode]; repeat' split
                  all_goals rfl
    | drawS h t => simp only [retE, evCode]; repeat' split
                   all_goals rfl
    | stuck => rfl
    | prim _ => rfl
    | rangeF g f ps nt2 =>
      simp only [retE, evCode]; repeat' split
      all_goals rfl
end

/-! a function whose fourth piece defers a call that gives a lock back -/
/-- the lock at a temporary is given back -/
def unV (x nt : Nat) : VCode := .seq (.reg [⟨some nt, .slA 1 1 (.t x) none none, none, []⟩, ⟨some (nt + 1), .load none (.t x), none, []⟩, ⟨some (nt + 2), .bin .eql (.t (nt + 1)) (.c (.int .i32 1)), none, []⟩]) (.cond (.t (nt + 2)) (.reg [⟨none, .store 1 (.t x) (.c (.int .i32 0)), none, []⟩]) .stuck)
def defC (x nt : Nat) : VCode → VCode
  | .seq a (.seq b (.seq c (.seq (.reg ops) r))) => .seq a (.seq b (.seq c (.seq (.reg ops.dropLast) (.seq (.block 999999 (retE 999999 r)) (unV x nt)))))
  | c => c
def defF (x nt : Nat) (f : VFn) : VFn := ⟨f.nparams, f.results, defC x nt f.body⟩
/-- what the machine's code must look like: no loops over functions; the lock's place and the results stay -/
def defOk (x nt : Nat) (f : VFn) : Bool := match f.body with
  | .seq a (.seq b (.seq c (.seq (.reg ops) r))) => (entAt ops).isNone && noId 999999 r && dstC (fun t => t == x) r && (f.results.all fun | .tmp t => decide (t < nt) | .cell t _ => decide (t < nt) | _ => false) && decide (x < nt) && !ops.isEmpty
  | _ => false
/-- the raw code: the fourth piece ends with the deferred call -/
def defR (u x : Nat) : Code → Bool
  | .seq _ (.seq _ (.seq _ (.seq (.region _ ops false) _))) => match ops.toList.getLast? with
    | some o => match o.op, o.dst, o.guard with
      | .defer c, none, none => match c.callee, c.args.toList with
        | .value (.func f), [.tmp t] => f == u && t == x
        | _, _ => false
      | _, _, _ => false
    | none => false
  | _ => false
theorem unV_run {call : CallFn} {n lim x nt : Nat} {s s' : St} {e : VExit} (he : evCode call lim n (unV x nt) s = some (e, s')) (hx : x < nt) :
    e = .normal ∧ ∃ b off cs, s.fr x = .ptr b off ∧ s.H[b]? = some (.row cs true) ∧ off < cs.length ∧ cs.getD off dv = .int .i32 1 ∧ vstoreH lim s.H b off [.int .i32 0] = some s'.H ∧ s'.L = s.L ∧ (∀ t, t < nt → s'.fr t = s.fr t) := by
  obtain ⟨n, rfl⟩ : ∃ m, n = m + 2 := by
    rcases n with _ | _ | n
    · simp [evCode] at he
    · simp [evCode, unV] at he
    · exact ⟨n, rfl⟩
  obtain ⟨fr, L, H⟩ := s
  simp only [unV, evCode, evOps, evStep, evVal, wanted, if_true, evOp, opd, opdO, putD] at he
  cases hs : vslA 1 1 H (fr x) none none with
  | none => simp [hs, pureV] at he
  | some v0 =>
  obtain ⟨b, off, hp⟩ : ∃ b off, fr x = .ptr b off := by
    cases hq : fr x with
    | ptr b off => exact ⟨b, off, rfl⟩
    | _ => rw [hq] at hs; simp [vslA] at hs
  simp only [hs, pureV] at he
  have u1 : ∀ v, upd fr nt v x = fr x := fun v => by unfold upd; rw [if_neg (by omega)]
  rw [u1] at he
  cases hq : vload none L H (fr x) with
  | none => simp [hq] at he
  | some v1 =>
  simp only [hq] at he
  have u2 : upd (upd fr nt v0) (nt + 1) v1 (nt + 1) = v1 := by simp [upd]
  rw [u2] at he
  cases hw : vbin .eql v1 (.int .i32 1) with
  | none => simp [hw] at he
  | some v2 =>
  simp only [hw] at he
  have u3 : upd (upd (upd fr nt v0) (nt + 1) v1) (nt + 2) v2 (nt + 2) = v2 := by simp [upd]
  rw [u3] at he
  have hv1 : v1 = .int .i32 1 ∧ v2 = .bool true ∨ v2 ≠ .bool true := by
    by_cases h2 : v2 = .bool true
    · left
      refine ⟨?_, h2⟩
      subst h2
      cases v1 <;> simp [vbin, isShift] at hw
      obtain ⟨rfl, h⟩ := hw
      simpa using h
    · exact Or.inr h2
  rcases hv1 with ⟨rfl, rfl⟩ | h2
  case inr =>
    exfalso
    split at he
    · exact absurd rfl h2
    · rcases n with _ | n <;> simp [evCode] at he
    · cases he
  have keep : ∀ t, t < nt → upd (upd (upd fr nt v0) (nt + 1) (.int .i32 1)) (nt + 2) (.bool true) t = fr t := fun t ht => by
    unfold upd
    rw [if_neg (by omega), if_neg (by omega), if_neg (by omega)]
  have e3 : ∀ n, evCode call lim n (VCode.reg [⟨none, .store 1 (.t x) (.c (.int .i32 0)), none, []⟩]) ⟨upd (upd (upd fr nt v0) (nt + 1) (.int .i32 1)) (nt + 2) (.bool true), L, H⟩ = some (e, s') → e = .normal ∧ vstoreH lim H b off [.int .i32 0] = some s'.H ∧ s'.L = L ∧ ∀ t, t < nt → s'.fr t = fr t := by
    intro n hn
    rcases n with _ | n
    · simp [evCode] at hn
    simp only [evCode, evOps, evStep, evVal, wanted, if_true, evOp, opd, keep x hx, hp, vstore, stor, cellsV, List.length_singleton] at hn
    cases hst : vstoreH lim H b off [.int .i32 0] with
    | none => simp [hst] at hn
    | some H1 =>
      simp [hst, putD] at hn
      obtain ⟨rfl, rfl⟩ := hn
      exact ⟨rfl, rfl, rfl, keep⟩
  obtain ⟨rfl, hst, hL, hfr⟩ := e3 _ he
  have hst' := hst
  unfold vstoreH at hst'
  split at hst'
  case isFalse => cases hst'
  split at hst'
  case h_2 => cases hst'
  rename_i cs hb
  split at hst'
  case isFalse => cases hst'
  rename_i hle
  rw [hp] at hq
  simp [vload, hb, rd] at hq
  refine ⟨rfl, b, off, cs, hp, hb, hq.1, ?_, hst, hL, hfr⟩
  rw [← hq.2, List.getD_eq_getElem?_getD]
theorem exit_ne {call : CallFn} {lim k : Nat} : ∀ {n : Nat} {c : VCode} {s s' : St} {id : Nat}, noId k c = true → evCode call lim n c s = some (.exit id, s') → id ≠ k
  | 0, c, s, s', id, _, h => by simp [evCode] at h
  | n + 1, c, s, s', id, hn, h => by
    cases c with
    | skip => simp [evCode] at h
    | ret => simp [evCode] at h
    | stuck => simp [evCode] at h
    | prim _ => simp [evCode] at h
    | exit i =>
      simp [evCode] at h
      simp only [noId, bne_iff_ne, ne_eq] at hn
      rw [← h.1]; exact hn
    | reg ops => simp only [evCode] at h; split at h <;> simp at h
    | draw a b =>
      simp only [evCode] at h
      split at h
      case h_2 => cases h
      split at h <;> simp at h
    | drawS a b =>
      simp only [evCode] at h
      split at h
      case h_2 => cases h
      split at h <;> simp at h
    | seq a b =>
      simp only [noId, Bool.and_eq_true] at hn
      simp only [evCode] at h
      split at h
      · exact exit_ne hn.2 h
      · exact exit_ne hn.1 h
    | cond c a b =>
      simp only [noId, Bool.and_eq_true] at hn
      simp only [evCode] at h
      split at h
      · exact exit_ne hn.1 h
      · exact exit_ne hn.2 h
      · cases h
    | block i a =>
      simp only [noId, Bool.and_eq_true] at hn
      simp only [evCode] at h
      split at h
      · rename_i id' s1 h1
        split at h
        · cases h
        · cases h; exact exit_ne hn.2 h1
      · exact exit_ne hn.2 h
    | loop a =>
      have hn0 : noId k a = true := hn
      simp only [evCode] at h
      split at h
      · exact exit_ne (c := .loop a) hn h
      · exact exit_ne hn0 h
    | scope a => simp only [evCode] at h; exact exit_ne (c := a) hn h
    | rangeF g f ps nt2 =>
      simp only [evCode] at h
      split at h
      case h_2 => cases h
      split at h
      · cases h
      split at h
      case h_2 => cases h
      split at h <;> simp at h
section
variable {P : Program} {call : CallFn} {lim : Nat} {glob : List Nat} {nt : Nat}
/-- a store into a row of one's own, the activation's variables beside it -/
theorem store_ownL {A : Nat → Prop} {ρ : Loc} {lam : Lam} {L : Lo} {w : World} {H H' : Hp} (hH : RelH ρ H w) (hL : RelL A ρ lam L w) {b off r o c : Nat} {x : V} {y : Value} (hv : vstoreH lim H b off [x] = some H') (hρ : ρ b = some (r, o, c)) (hx : VR ρ x y) (hs : scal x = true) :
    Grow lim (fun _ => True) ρ lam L H w ρ lam L H' (w.setCell ⟨r, o + off, none⟩ y) ∧ RelH ρ H' (w.setCell ⟨r, o + off, none⟩ y) ∧ RelL A ρ lam L (w.setCell ⟨r, o + off, none⟩ y) := by
  obtain ⟨w', h1, h2, h3, h4⟩ := write_rel (P := default) (tg := fun _ => True) hH hL hv hρ (ys := [y]) ⟨rfl, fun i hi => by
    have : i = 0 := by simpa using hi
    subst this; exact hx⟩ (fun i hi => by
    have : i = 0 := by simpa using hi
    subst this; exact hs)
  have hb : ∃ cs, H[b]? = some (.row cs true) ∧ off < cs.length := by
    unfold vstoreH at hv
    split at hv
    case isFalse => cases hv
    split at hv
    case h_2 => cases hv
    rename_i cs hb
    split at hv
    case isFalse => cases hv
    rename_i hle
    exact ⟨cs, hb, by simp at hle; omega⟩
  obtain ⟨cs, hb, hoff⟩ := hb
  obtain ⟨y0, k1, k2, k3⟩ := cell_own hH hb hoff hρ
  have hone := hx.one hs
  have : w' = w.setCell ⟨r, o + off, none⟩ y := by
    simp [storeCells, Addr.add] at h1
    rw [run_store _ w _ _ _ hone] at h1
    simp [k1, k3] at h1
    exact h1.symm
  subst this
  exact ⟨h2, h3, h4⟩
/-- two pieces, the second not yet looked at -/
theorem seq_step (hm : P.follows .mixedOrders = true) (hcall : CallOk P call) (hc : CallExt call) {n : Nat} {x y : Code} {vx W : VCode} {s s2 : St} {e : VExit} {ρ : Loc} {lam : Lam} {a : Act} {w : World} {Q : Exit → Act → World → Prop}
    (hx : slimCode P glob nt x = some vx) (hr : rsOf x = []) (he : evCode call lim (n + 1) (.seq vx W) s = some (e, s2)) (hnt : nt = a.tmps.size) (hst : Stands ρ lam s a w) (hfR : FreeR ρ s.H.length s2.H.length) (hfL : FreeL lam s.L.length s2.L.length)
    (h1 : ∀ s1 ρ1 lam1 a1 w1, evCode call lim n W s1 = some (e, s2) → Stands ρ1 lam1 s1 a1 w1 → a1.defers = a.defers → a1.tmps.size = a.tmps.size → Grow lim (fun _ => True) ρ lam s.L s.H w ρ1 lam1 s1.L s1.H w1 → FreeR ρ1 s1.H.length s2.H.length → FreeL lam1 s1.L.length s2.L.length → y.wpIn (rF none) 0 P Q a1 w1)
    (h2 : e ≠ .normal → ∀ ρ1 lam1 a1 w1, Stands ρ1 lam1 s2 a1 w1 → a1.defers = a.defers → a1.tmps.size = a.tmps.size → Grow lim (fun _ => True) ρ lam s.L s.H w ρ1 lam1 s2.L s2.H w1 → Q (toExit e) a1 w1) : (Code.seq x y).wpIn (rF none) 0 P Q a w := by
  simp only [evCode] at he
  refine wpIn_seq ?_
  split at he
  · rename_i s1 hs1
    obtain ⟨x1, x2⟩ := evCode_ext hc he
    refine wpIn_mono (code_sim0 (r := none) hm hcall hc n x vx s s1 .normal ρ lam a w hx hs1 hnt hst (fun b g1 g2 => hfR b g1 (by have := x1.1; omega)) (fun b g1 g2 => hfL b g1 (by omega)) hr) ?_
    rintro e' a1 w1 ⟨rfl, hd, hz, ρ1, lam1, hst1, g⟩
    exact h1 s1 ρ1 lam1 a1 w1 he hst1 hd hz g (g.freeR (Nat.le_refl _) fun b g1 g2 => hfR b (by have := g.lenH; omega) g2) (g.freeL (Nat.le_refl _) fun b g1 g2 => hfL b (by have := g.lenL; omega) g2)
  · rename_i hne
    refine wpIn_mono (code_sim0 (r := none) hm hcall hc n x vx s s2 e ρ lam a w hx he hnt hst hfR hfL hr) ?_
    rintro e' a1 w1 ⟨rfl, hd, hz, ρ1, lam1, hst1, g⟩
    have hn : e ≠ .normal := fun h => by subst h; exact hne s2 he
    have := h2 hn ρ1 lam1 a1 w1 hst1 hd hz g
    cases e with
    | normal => exact absurd rfl hn
    | exit id => exact this
    | ret => exact this
theorem resVs_same {rs : List VRes} {fr fr' : Fr} {L : Lo} {H : Hp} (h : (rs.all fun | .tmp t => decide (t < nt) | .cell t _ => decide (t < nt) | _ => false) = true) (hfr : ∀ t, t < nt → fr' t = fr t) : resVs fr' L H rs = resVs fr L H rs := by
  induction rs with
  | nil => rfl
  | cons r rs ih =>
    simp only [List.all_cons, Bool.and_eq_true] at h
    cases r with
    | tmp t =>
      have ht : t < nt := by simpa using h.1
      simp only [resVs, resV, hfr t ht, ih h.2]
    | weak t => simp at h
    | cell t g =>
      have ht : t < nt := by simpa using h.1
      simp only [resVs, resV, hfr t ht, ih h.2]
theorem grow_end {ρ ρ' : Loc} {lam' : Lam} {L' : Lo} {H H' : Hp} {w w' : World} (g : Grow lim (fun _ => True) ρ (fun _ => none) [] H w ρ' lam' L' H' w') : Grow lim (fun _ => True) ρ (fun _ => none) [] H w ρ' (fun _ => none) [] H' w' :=
  ⟨g.os, g.tape, g.output, g.size, g.lenH, Nat.le_refl _, g.extR, fun _ _ => rfl, g.newR, fun i r _ h2 => absurd h2 (by simp), g.keep, g.own⟩
end
/-- A FUNCTION THAT TAKES A LOCK, DEFERS ITS GIVING BACK, AND GOES ON -/
theorem def_hand {P : Program} {ML : MuLink} (hML : MuLib P ML) (hm : P.follows .mixedOrders = true) {f : FuncId} {fn : Func} {c : Code} {glob : List Nat} {vs : VFn} {x : Nat} (hfn : P.funcs[f]? = some fn) (hbody : fn.body = some c)
    (hs : slimFn P glob fn = some vs) (hok : defOk x fn.ntmps vs = true) (hr : defR ML.unlock x c = true) (hrs : rsOf c = []) : HandOk P f (defF x fn.ntmps vs) := by
  unfold slimFn at hs
  rw [hbody] at hs
  simp only at hs
  split at hs
  case isFalse => cases hs
  rename_i hnt
  split at hs
  case h_2 => cases hs
  rename_i rs vc hres hvc
  cases hs
  unfold defOk at hok
  simp only at hok
  split at hok
  case h_2 => cases hok
  rename_i va vb vd ops vr
  simp only [Bool.and_eq_true, Option.isNone_iff_eq_none, decide_eq_true_eq, Bool.not_eq_true', List.isEmpty_eq_false_iff] at hok
  obtain ⟨⟨⟨⟨⟨hent, hno⟩, hdst⟩, hall⟩, hxn⟩, hne⟩ := hok
  obtain ⟨ca, c1, rfl, ha, h1⟩ := slim_seq hvc
  obtain ⟨cb, c2, rfl, hb, h2⟩ := slim_seq h1
  obtain ⟨cd, c3, rfl, hd, h3⟩ := slim_seq h2
  obtain ⟨cg, cr, rfl, hg, h4⟩ := slim_seq h3
  obtain ⟨id, rops, rfl, hops⟩ := slim_reg hg hent
  simp only [rsOf, List.append_eq_nil_iff] at hrs
  obtain ⟨ra, rb, rd, _, rr⟩ := hrs
  refine ⟨by simp [bodied, hfn, hbody, hnt.2], fun call n lim args H v s e hcall hc hlen he hee hv ρ w xs hH hG hxs hfR => ?_⟩
  have hxl : xs.size = args.length := by
    have := hxs.1
    simp at this; omega
  have hlen : args.length = fn.params.size + fn.nfree := hlen
  refine calls_of_wp_defers hfn hbody (wpIn_wide (n := 0).1 ?_)
  generalize hR : (fun e w' => ∃ x ρ', e = Ending.returned x ∧ VR ρ' v x ∧ Grow lim (fun _ => True) ρ (fun _ => none) [] H w ρ' (fun _ => none) [] s.H w' ∧ RelH ρ' s.H w') = R
  show Code.wpIn (rF none) 0 P _ (bodyPostD P fn R) _ w
  have start : Stands ρ (fun _ => none) ⟨fr0 args, [], H⟩ { tmps := xs ++ Array.replicate (fn.ntmps - xs.size) undef, defers := [] } w := start_stands hH hG hxs _
  have hz0 : fn.ntmps = (xs ++ Array.replicate (fn.ntmps - xs.size) undef).size := by simp; omega
  generalize hA : ({ tmps := xs ++ Array.replicate (fn.ntmps - xs.size) undef, defers := [] } : Act) = a0 at start
  have hd0 : a0.defers = [] := by rw [← hA]
  have hz0 : fn.ntmps = a0.tmps.size := by rw [← hA]; exact hz0
  have fin : ∀ ρ1 lam1 a1 w1, Stands ρ1 lam1 s a1 w1 → a1.defers = [] → Grow lim (fun _ => True) ρ (fun _ => none) [] H w ρ1 lam1 s.L s.H w1 → e ≠ .normal → bodyPostD P fn R (toExit e) a1 w1 := by
    intro ρ1 lam1 a1 w1 hst hdf g hen
    obtain ⟨y, hy1, hy2⟩ := results_rel hst hres hv
    have : Leaves P fn a1.tmps R a1.defers .returning w1 := by
      rw [hdf]
      refine ⟨y, hy1, ?_⟩
      rw [← hR]
      exact ⟨y, ρ1, rfl, hy2, grow_end g, hst.H⟩
    rcases hee with rfl | rfl
    · exact absurd rfl hen
    · exact this
  obtain ⟨n, rfl⟩ : ∃ m, n = m + 1 := by
    rcases n with _ | n
    · simp [evCode] at he
    · exact ⟨n, rfl⟩
  refine seq_step (lim := lim) (glob := glob) (nt := fn.ntmps) hm hcall hc ha ra he hz0 start hfR (fun i _ _ => rfl) ?_ fun hen ρ1 lam1 a1 w1 hst hdf hz g => fin ρ1 lam1 a1 w1 hst (hdf.trans hd0) g hen
  intro s1 ρ1 lam1 a1 w1 he hst1 hd1 hz1 g1 hfR1 hfL1
  obtain ⟨n, rfl⟩ : ∃ m, n = m + 1 := by
    rcases n with _ | n
    · simp [evCode] at he
    · exact ⟨n, rfl⟩
  refine seq_step (lim := lim) (glob := glob) (nt := fn.ntmps) hm hcall hc hb rb he (hz0.trans hz1.symm) hst1 hfR1 hfL1 ?_ fun hen ρ2 lam2 a2 w2 hst hdf hz g => fin ρ2 lam2 a2 w2 hst (hdf.trans (hd1.trans hd0)) (Grow.trans g1 g hst1.L.dom) hen
  intro s2 ρ2 lam2 a2 w2 he hst2 hd2 hz2 g2 hfR2 hfL2
  have g2 := Grow.trans g1 g2 hst1.L.dom
  have hd2 := hd2.trans (hd1.trans hd0)
  have hz2 := hz2.trans hz1
  obtain ⟨n, rfl⟩ : ∃ m, n = m + 1 := by
    rcases n with _ | n
    · simp [evCode] at he
    · exact ⟨n, rfl⟩
  refine seq_step (lim := lim) (glob := glob) (nt := fn.ntmps) hm hcall hc hd rd he (hz0.trans hz2.symm) hst2 hfR2 hfL2 ?_ fun hen ρ3 lam3 a3 w3 hst hdf hz g => fin ρ3 lam3 a3 w3 hst (hdf.trans hd2) (Grow.trans g2 g hst2.L.dom) hen
  intro s3 ρ3 lam3 a3 w3 he hst3 hd3 hz3 g3 hfR3 hfL3
  have g3 := Grow.trans g2 g3 hst2.L.dom
  have hd3 := hd3.trans hd2
  have hz3 := hz3.trans hz2
  -- the piece with the deferred call
  obtain ⟨n, rfl⟩ : ∃ m, n = m + 3 := by
    rcases n with _ | _ | _ | n
    · simp [evCode] at he
    · simp [evCode] at he
    · exfalso
      revert he
      simp only [evCode]
      cases evOps call lim ops.dropLast s3 <;> simp
    · exact ⟨n, rfl⟩
  have he : evCode call lim (n + 3) (.seq (.reg ops.dropLast) (.seq (.block 999999 (retE 999999 vr)) (unV x fn.ntmps))) s3 = some (e, s) := he
  simp only [evCode] at he
  cases hpre : evOps call lim ops.dropLast s3 with
  | none => rw [hpre] at he; simp at he
  | some s4 =>
  rw [hpre] at he
  simp only [retE_ev hno] at he
  cases hvr : evCode call lim n vr s4 with
  | none => rw [hvr] at he; simp at he
  | some p =>
  obtain ⟨er, s5⟩ := p
  rw [hvr] at he
  simp only [Option.map_some] at he
  have her : (er = .normal ∨ er = .ret) ∧ evCode call lim (n + 1) (unV x fn.ntmps) s5 = some (e, s) := by
    cases er with
    | normal => exact ⟨Or.inl rfl, he⟩
    | ret => exact ⟨Or.inr rfl, he⟩
    | exit i =>
      exfalso
      have := exit_ne hno hvr
      simp only [exE, if_neg this] at he
      cases he
      rcases hee with h | h <;> cases h
  obtain ⟨her, hun⟩ := her
  obtain ⟨rfl, b, off, cs, hpx, hbr, hoff, hcell, hst0, hL0, hfr0⟩ := unV_run hun hxn
  have hq : ∀ t, (fun t => t == x) t = true → s5.fr t = s4.fr t := code_fr hdst hvr
  have hx54 : s5.fr x = s4.fr x := hq x (by simp)
  have hH5 : s.H.length = s5.H.length := by
    unfold vstoreH at hst0
    split at hst0
    case isFalse => cases hst0
    rw [hbr] at hst0
    simp only at hst0
    split at hst0
    · rw [← Option.some.inj hst0]; simp
    · cases hst0
  have xx4 := evOps_ext hc hpre
  have xx5 := evCode_ext hc hvr
  obtain ⟨o, hlast, hop⟩ : ∃ o, rops.toList.getLast? = some o ∧ ∃ cl args, o.op = .defer cl ∧ o.dst = none ∧ o.guard = none ∧ cl.callee = .value (.func ML.unlock) ∧ cl.args = args ∧ args.toList = [.tmp x] := by
    unfold defR at hr
    simp only at hr
    split at hr
    case h_2 => cases hr
    rename_i o hl
    refine ⟨o, hl, ?_⟩
    split at hr
    case h_2 => cases hr
    rename_i cl h1 h2 h3
    split at hr
    case h_2 => cases hr
    rename_i f' t h4 h5
    simp only [Bool.and_eq_true, beq_iff_eq] at hr
    obtain ⟨rfl, rfl⟩ := hr
    exact ⟨cl, cl.args, h1, h2, h3, h4, rfl, h5⟩
  obtain ⟨cl, cargs, ho1, ho2, ho3, ho4, rfl, ho5⟩ := hop
  have hcargs : cl.args = #[.tmp x] := by
    have := congrArg List.toArray ho5
    simpa using this
  obtain ⟨hlen2, hget⟩ := slimOpers_get hops
  have hlv : ops.length = rops.size := by simpa using hlen2
  have hpos : 0 < rops.size := by rw [← hlv]; exact List.length_pos_iff.2 hne
  have hk : ops.dropLast.length = rops.size - 1 := by rw [List.length_dropLast, hlv]
  have hlo : rops[rops.size - 1]? = some o := by
    rw [List.getLast?_eq_getElem?] at hlast
    simpa using hlast
  refine wpIn_seq (wpIn_region ?_)
  have e0 : List.range rops.size = List.range' 0 ops.dropLast.length ++ [rops.size - 1] := by
    rw [hk, ← List.range_eq_range']
    conv => lhs; rw [show rops.size = rops.size - 1 + 1 by omega, List.range_succ]
  rw [e0]
  refine seq_simP (glob := glob) (nt := fn.ntmps) (lim := lim) hcall hc _ ops.dropLast 0 s3 s4 ρ3 lam3 a3 w3 (fun i vo hi => ?_) hpre (Nat.le_of_eq (hz0.trans hz3.symm)) hst3 (fun b g1 g2 => hfR3 b g1 (by have := xx5.1.1; omega)) (fun i g1 g2 => hfL3 i g1 (by have := xx5.2; rw [hL0]; omega)) fun a4 ρ4 lam4 w4 hd4 hz4 hst4 g4 => ?_
  · have hi' : i < ops.dropLast.length := (List.getElem?_eq_some_iff.1 hi).1
    have hlt : i < rops.size := by omega
    obtain ⟨vo', q1, q2⟩ := hget i rops[i] (by simp [hlt])
    have q3 : ops.dropLast[i]? = ops[i]? := by
      rw [List.dropLast_eq_take, List.getElem?_take_of_lt (by rw [← List.length_dropLast]; exact hi')]
    rw [q3, q1] at hi
    cases hi
    obtain ⟨b1, b2, b3, b4⟩ := slimOper_spec q2
    exact ⟨rops[i], by rw [Nat.zero_add]; exact Array.getElem?_eq_getElem hlt, b1, b2, b3, b4⟩
  have g4' := Grow.trans g3 g4 hst3.L.dom
  have hfR4 : FreeR ρ4 s4.H.length s.H.length := g4.freeR (Nat.le_refl _) fun b g1 g2 => hfR3 b (by have := g4.lenH; omega) g2
  have hfL4 : FreeL lam4 s4.L.length s.L.length := g4.freeL (Nat.le_refl _) fun b g1 g2 => hfL3 b (by have := g4.lenL; omega) g2
  -- the deferred call is laid by
  have hv4 := hst4.fr.fv x
  rw [← hx54, hpx] at hv4
  obtain ⟨r, oo, cc, hρ4, hval⟩ := hv4.ptr
  rw [wpOpsIn_cons]
  unfold wpOpIn
  simp only [hlo]
  have hwt : Region.wanted o (yielded rops a4.tmps) = true := by unfold Region.wanted; rw [ho3]
  rw [hwt]
  simp only [if_true]
  unfold Oper.wpIn
  refine ⟨fun _ _ => trivial, ?_⟩
  have hrun : (Oper.semAt (rF none).round a4.eval o).run P w4 = .ok (.defer { target := .fn (.func ML.unlock) #[], args := #[.pointer (some ⟨r, oo + off, none⟩)] }) w4 := by
    show (Oper.semAt none a4.eval o).run P w4 = _
    rw [Oper.semAt_none]
    have hev : a4.eval (.tmp x) = .pointer (some ⟨r, oo + off, none⟩) := hval
    simp only [execOp, ho1, resolve, ho4, hcargs]
    simp [Act.eval, Deferred.ofValue, ← hev]
  rw [hrun, Oper.uponIn_defer, ho2]
  show Code.wpIn (rF none) 0 P cr (bodyPostD P fn R) ⟨a4.tmps, { target := .fn (.func ML.unlock) #[], args := #[.pointer (some ⟨r, oo + off, none⟩)] } :: a4.defers⟩ w4
  have hfR5 : FreeR ρ4 s4.H.length s5.H.length := fun b g1 g2 => hfR4 b g1 (by omega)
  refine wpIn_mono (code_sim0 (r := none) hm hcall hc n cr vr s4 s5 er ρ4 lam4 _ w4 h4 hvr (hz0.trans (hz3.symm.trans hz4.symm)) ⟨hst4.fr, hst4.H, hst4.L⟩ hfR5 (fun i g1 g2 => hfL4 i g1 (by rw [hL0]; omega)) rr) ?_
  rintro e' a5 w5 ⟨rfl, hd5, hz5, ρ5, lam5, hst5, g5⟩
  have hρ5 : ρ5 b = some (r, oo, cc) := g5.leR hfR5 b _ hρ4
  obtain ⟨y0, k1, k2, k3⟩ := cell_own hst5.H hbr hoff hρ5
  rw [hcell] at k2
  cases k2
  obtain ⟨g6, r6, l6⟩ := store_ownL hst5.H hst5.L hst0 hρ5 (.int .i32 0) rfl
  have hv5 : vres rs s5.fr s5.L s.H = some v := by
    rw [← hv, ← hL0]
    unfold vres
    rw [resVs_same hall (fun t ht => (hfr0 t ht).symm)]
    rfl
  have st6 : Stands ρ5 lam5 ⟨s5.fr, s5.L, s.H⟩ a5 (w5.setCell ⟨r, oo + off, none⟩ (.int .i32 0)) := ⟨hst5.fr, r6, l6⟩
  obtain ⟨y, hy1, hy2⟩ := results_rel st6 hres hv5
  have key : Leaves P fn a5.tmps R a5.defers .returning w5 := by
    rw [hd5]
    simp only
    rw [hd4, hd3]
    refine leaves_cons (f := ML.unlock) (args := #[.pointer (some ⟨r, oo + off, none⟩)]) (by simp) ?_ ?_
    · have := Go.MuLone.run_callFunc_enter (P := P) hML.f_unlock (by kernel_rfl) rfl (#[.pointer (some ⟨r, oo + off, none⟩)]) w5
      simpa [invoke] using this
    · refine (Go.MuLone.unlock_deferred hML ⟨r, oo + off, none⟩ .returning w5 k1 k3).mono ?_
      rintro e u' w6 ⟨rfl, rfl, rfl⟩
      refine ⟨y, hy1, ?_⟩
      rw [← hR]
      exact ⟨y, ρ5, rfl, hy2, grow_end (Grow.trans (Grow.trans g4' g5 hst4.L.dom) g6 hst5.L.dom), r6⟩
  rcases her with rfl | rfl <;> exact key
end Go.Proofs.YtpdnbmnnkefedaaGreatDoor.Vm
