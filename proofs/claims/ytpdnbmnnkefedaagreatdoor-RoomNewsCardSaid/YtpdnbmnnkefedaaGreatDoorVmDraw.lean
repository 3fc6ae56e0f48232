/- A region whose order is drawn: its head in whatever order, its tail in the one that is left. -/
import Derived.Test.YtpdnbmnnkefedaaGreatDoorVmStep2
import Derived.StillTail
namespace Go.Proofs.YtpdnbmnnkefedaaGreatDoor.Vm
open Go
set_option linter.unusedVariables false
set_option linter.unusedSimpArgs false

/-! counting what is not listed yet -/
def cnt : Nat → (Nat → Bool) → Nat
  | 0, _ => 0
  | n + 1, p => cnt n p + if p n then 1 else 0

theorem cnt_congr : ∀ {n : Nat} {p q : Nat → Bool}, (∀ i, i < n → p i = q i) → cnt n p = cnt n q
  | 0, _, _, _ => rfl
  | n + 1, p, q, h => by simp only [cnt, h n (Nat.lt_succ_self n), cnt_congr fun i hi => h i (Nat.lt_succ_of_lt hi)]

theorem cnt_one : ∀ {n k : Nat} {p q : Nat → Bool}, k < n → p k = true → q k = false → (∀ i, i ≠ k → q i = p i) → cnt n p = cnt n q + 1
  | 0, k, _, _, h, _, _, _ => absurd h (by omega)
  | n + 1, k, p, q, h, hp, hq, hne => by
    simp only [cnt]
    by_cases e : k = n
    · subst e
      rw [hp, hq, cnt_congr fun i hi => (hne i (by omega)).symm]; simp
    · rw [cnt_one (by omega) hp hq hne, hne n (fun e' => e e'.symm)]; omega

theorem cnt_zero : ∀ {n : Nat} {p : Nat → Bool}, cnt n p = 0 → ∀ i, i < n → p i = false
  | 0, _, _, i, hi => absurd hi (by omega)
  | n + 1, p, h, i, hi => by
    simp only [cnt] at h
    by_cases e : i = n
    · subst e; cases hp : p i <;> simp [hp] at h <;> rfl
    · exact cnt_zero (n := n) (p := p) (by omega) i (by omega)

/-! the last that was written -/
def lw (f0 : Fr) (dst : Nat → Option Nat) (val : Nat → V) (S : Nat → Bool) : Nat → Fr
  | 0 => f0
  | k + 1 => if S k then putD (lw f0 dst val S k) (dst k) (val k) else lw f0 dst val S k

section
variable {f0 : Fr} {dst : Nat → Option Nat} {val : Nat → V}

theorem putD_ne {fr : Fr} {d : Option Nat} {v : V} {t : Nat} (h : d ≠ some t) : putD fr d v t = fr t := by
  cases d with
  | none => rfl
  | some d => simp only [putD, upd]; rw [if_neg]; exact fun e => h (by rw [e])
theorem putD_eq {fr : Fr} {v : V} {t : Nat} : putD fr (some t) v t = v := by simp [putD, upd]

theorem lw_agree {S S' : Nat → Bool} {t : Nat} : ∀ {k : Nat}, (∀ i, i < k → dst i = some t → S i = S' i) → lw f0 dst val S k t = lw f0 dst val S' k t
  | 0, _ => rfl
  | k + 1, h => by
    have ih := lw_agree (k := k) fun i hi => h i (Nat.lt_succ_of_lt hi)
    simp only [lw]
    by_cases hd : dst k = some t
    · rw [h k (Nat.lt_succ_self k) hd]
      cases S' k <;> simp [hd, putD_eq, ih]
    · cases S k <;> cases S' k <;> simp [putD_ne hd, ih]

theorem lw_stop {S : Nat → Bool} {t k : Nat} : ∀ {m : Nat}, k ≤ m → (∀ i, k ≤ i → i < m → dst i = some t → S i = false) → lw f0 dst val S m t = lw f0 dst val S k t
  | 0, h, _ => by have : k = 0 := by omega
                  subst this; rfl
  | m + 1, h, hs => by
    by_cases e : k = m + 1
    · subst e; rfl
    · rw [← lw_stop (m := m) (by omega) fun i h1 h2 => hs i h1 (by omega)]
      simp only [lw]
      by_cases hd : dst m = some t
      · rw [hs m (by omega) (by omega) hd]; simp
      · cases S m <;> simp [putD_ne hd]

/-- one more is written, and nobody who was written before comes behind it -/
theorem lw_put {S S' : Nat → Bool} {k m : Nat} (hk : k < m) (hS' : S' k = true) (hne : ∀ i, i ≠ k → S' i = S i) (hlate : ∀ i, k < i → i < m → S i = true → ∀ t, dst k = some t → dst i ≠ some t) :
    ∀ t, lw f0 dst val S' m t = putD (lw f0 dst val S m) (dst k) (val k) t := by
  intro t
  by_cases hd : dst k = some t
  · rw [hd, putD_eq]
    rw [lw_stop (k := k + 1) (by omega) fun i h1 h2 hi => ?_]
    · simp only [lw, hS', if_true, hd, putD_eq]
    · rw [hne i (by omega)]
      cases hs : S i with
      | false => rfl
      | true => exact absurd hi (hlate i (by omega) h2 hs t hd)
  · rw [putD_ne hd]
    apply lw_agree
    intro i _ hi
    exact hne i (fun e => hd (by rw [← e]; exact hi))
end

def mw (L : Nat → Lo) (wr : Nat → Nat → Bool) (S : Nat → Bool) : Nat → Nat → Option (List V)
  | 0, id => (L 0)[id]?
  | k + 1, id => if S k && wr k id then (L (k + 1))[id]? else mw L wr S k id

section
variable {L : Nat → Lo} {wr : Nat → Nat → Bool}
theorem mw_agree {S S' : Nat → Bool} {id : Nat} : ∀ {k : Nat}, (∀ i, i < k → wr i id = true → S i = S' i) → mw L wr S k id = mw L wr S' k id
  | 0, _ => rfl
  | k + 1, h => by
    have ih := mw_agree (k := k) fun i hi => h i (Nat.lt_succ_of_lt hi)
    simp only [mw]
    cases hw : wr k id with
    | false => simp [ih]
    | true => rw [h k (Nat.lt_succ_self k) hw, ih]
theorem mw_stop {S : Nat → Bool} {id k : Nat} : ∀ {m : Nat}, k ≤ m → (∀ i, k ≤ i → i < m → wr i id = true → S i = false) → mw L wr S m id = mw L wr S k id
  | 0, h, _ => by have : k = 0 := by omega
                  subst this; rfl
  | m + 1, h, hs => by
    by_cases e : k = m + 1
    · subst e; rfl
    · rw [← mw_stop (m := m) (by omega) fun i h1 h2 => hs i h1 (by omega)]
      simp only [mw]
      cases hw : wr m id with
      | false => simp
      | true => rw [hs m (by omega) (by omega) hw]; simp
theorem mw_put {S S' : Nat → Bool} {k m id : Nat} (hk : k < m) (hS' : S' k = true) (hne : ∀ i, i ≠ k → S' i = S i) (hlate : wr k id = true → ∀ i, k < i → i < m → S i = true → wr i id = false) :
    mw L wr S' m id = if wr k id then (L (k + 1))[id]? else mw L wr S m id := by
  cases hw : wr k id with
  | true =>
    rw [mw_stop (k := k + 1) (by omega) fun i h1 h2 hi => ?_]
    · simp only [mw, hS', hw, Bool.and_self, if_true]
    · rw [hne i (by omega)]
      cases hs : S i with
      | false => rfl
      | true => rw [hlate hw i (by omega) h2 hs] at hi; cases hi
  | false =>
    simp only [Bool.false_eq_true, if_false]
    apply mw_agree
    intro i _ hi
    exact hne i (fun e => by rw [e, hw] at hi; cases hi)
end

/-! operations that leave the heap alone, and stores -/
theorem evX_free {lim : Nat} {H H' : Hp} {k : XOp} {vs : List V} {v : V} (hf : xfree k = true) (h : evX lim H k vs = some (v, H')) : H' = H ∧ ∀ lim2 H1, evX lim2 H1 k vs = some (v, H1) := by
  have key : ∀ {r : Option V}, optH H r = some (v, H') → H' = H ∧ ∀ H1, optH H1 r = some (v, H1) := by
    intro r h
    obtain ⟨h1, h2⟩ := optH_eq h
    exact ⟨h2, fun H1 => by rw [h1]; rfl⟩
  cases k with
  | slC sz lo hi =>
    cases lo <;> cases hi <;> rcases vs with _ | ⟨x, _ | ⟨l, _ | ⟨h2, _ | ⟨z, vs⟩⟩⟩⟩ <;> simp only [evX] at h ⊢ <;> first
      | (cases h; done)
      | (obtain ⟨h1, h2⟩ := key h; exact ⟨h1, fun _ H1 => h2 H1⟩)
  | capN =>
    rcases vs with _ | ⟨x, _ | ⟨y, vs⟩⟩ <;> simp only [evX] at h ⊢ <;> try (cases h; done)
    obtain ⟨h1, h2⟩ := key h; exact ⟨h1, fun _ H1 => h2 H1⟩
  | strR =>
    rcases vs with _ | ⟨x, _ | ⟨y, vs⟩⟩ <;> simp only [evX] at h ⊢ <;> try (cases h; done)
    obtain ⟨h1, h2⟩ := key h; exact ⟨h1, fun _ H1 => h2 H1⟩
  | mkI t =>
    rcases vs with _ | ⟨x, _ | ⟨y, vs⟩⟩ <;> simp only [evX] at h ⊢ <;> try (cases h; done)
    obtain ⟨h1, h2⟩ := key h; exact ⟨h1, fun _ H1 => h2 H1⟩
  | unI t =>
    rcases vs with _ | ⟨x, _ | ⟨y, vs⟩⟩ <;> simp only [evX] at h ⊢ <;> try (cases h; done)
    obtain ⟨h1, h2⟩ := key h; exact ⟨h1, fun _ H1 => h2 H1⟩
  | pnilT neg =>
    rcases vs with _ | ⟨x, _ | ⟨y, vs⟩⟩ <;> simp only [evX] at h ⊢ <;> try (cases h; done)
    obtain ⟨h1, h2⟩ := key h; exact ⟨h1, fun _ H1 => h2 H1⟩
  | inilT neg =>
    rcases vs with _ | ⟨x, _ | ⟨y, vs⟩⟩ <;> simp only [evX] at h ⊢ <;> try (cases h; done)
    obtain ⟨h1, h2⟩ := key h; exact ⟨h1, fun _ H1 => h2 H1⟩
  | wk =>
    rcases vs with _ | ⟨x, _ | ⟨y, vs⟩⟩ <;> simp only [evX] at h ⊢ <;> try (cases h; done)
    obtain ⟨h1, h2⟩ := key h; exact ⟨h1, fun _ H1 => h2 H1⟩
  | bs0 =>
    rcases vs with _ | ⟨x, vs⟩ <;> simp only [evX] at h ⊢ <;> cases h
    exact ⟨rfl, fun _ _ => rfl⟩
  | maxL =>
    simp only [evX] at h ⊢
    obtain ⟨h1, h2⟩ := key h; exact ⟨h1, fun _ H1 => h2 H1⟩
  | _ => simp [xfree] at hf
theorem evOp_hfree {lim lim' : Nat} {fr : Fr} {L : Lo} {H H1 : Hp} {op : VOp} {r : VNext} (hf : hfree fr op = true) (he : evOp lim fr L H op = some r) :
    ∃ v L', r = .val v L' H ∧ evOp lim' fr L H1 op = some (.val v L' H1) := by
  have pc : ∀ {x : Option V}, pureV L H x = some r → ∃ v L', r = .val v L' H ∧ pureV L H1 x = some (.val v L' H1) := by
    intro x h
    cases x with
    | none => simp [pureV] at h
    | some v => simp [pureV] at h; exact ⟨v, L, h.symm, rfl⟩
  cases op with
  | load g a =>
    simp only [hfree] at hf
    split at hf
    case h_2 => cases hf
    rename_i id off heq
    simp only [evOp, heq, vload] at he ⊢
    exact pc he
  | store sz a x =>
    simp only [hfree] at hf
    split at hf
    case h_2 => cases hf
    rename_i id off heq
    simp only [evOp, heq, vstore] at he ⊢
    repeat' (split at he)
    all_goals (first | (cases he; done) | skip)
    all_goals rename_i hq
    all_goals (repeat' (split at hq))
    all_goals (first | (cases hq; done) | skip)
    all_goals (cases hq; cases he; simp_all)
  | new loc z => simp only [hfree] at hf; subst hf; simp only [evOp, if_true] at he ⊢; cases he; exact ⟨_, _, rfl, rfl⟩
  | box loc x =>
    simp only [hfree] at hf; subst hf
    simp only [evOp, if_true] at he ⊢
    split at he
    · rename_i hs; rw [if_pos hs]; cases he; exact ⟨_, _, rfl, rfl⟩
    · cases he
  | x k args =>
    simp only [hfree] at hf
    simp only [evOp] at he ⊢
    split at he
    case h_2 => cases he
    rename_i v H2 hx
    cases he
    obtain ⟨h1, h2⟩ := evX_free hf hx
    subst h1
    exact ⟨_, _, rfl, by rw [h2]⟩
  | bslice _ _ _ _ | mks _ _ _ _ _ | append _ _ _ _ | copy _ _ _ | clr _ _ _ | slA _ _ _ _ _ | call _ _ | callV _ _ | bytes _ | stuck => simp [hfree] at hf
  | _ =>
    simp only [evOp] at he ⊢
    first
      | exact pc he
      | (cases he; exact ⟨_, _, rfl, rfl⟩)
      | (repeat' (split at he)
         all_goals (first | (cases he; done) | (cases he; exact ⟨_, _, rfl, by first | (simp_all; done) | (simp_all; omega)⟩)))

theorem evVal_hfree {call : CallFn} {lim lim' : Nat} {vo : VOper} {fr : Fr} {L L' : Lo} {H H' H1 : Hp} {v : V} (hf : wanted fr vo.guard = true → hfree fr vo.op = true) (he : evVal call lim vo ⟨fr, L, H⟩ = some (v, L', H')) :
    H' = H ∧ evVal call lim' vo ⟨fr, L, H1⟩ = some (v, L', H1) := by
  unfold evVal at he ⊢
  split at he
  · rename_i hw
    rw [if_pos hw]
    cases hr : evOp lim fr L H vo.op with
    | none => simp only [hr] at he; cases he
    | some r =>
      obtain ⟨v', L1, rfl, h2⟩ := evOp_hfree (lim' := lim') (H1 := H1) (hf hw) hr
      simp only [hr] at he
      simp only [h2]
      cases he
      exact ⟨rfl, rfl⟩
  · rename_i hw
    rw [if_neg hw]
    cases he
    exact ⟨rfl, rfl⟩

theorem vstoreH_own {lim b off : Nat} {xs : List V} {H H' : Hp} (h : vstoreH lim H b off xs = some H') : H'.length = H.length ∧ ∀ b', OwnAt H' b' → OwnAt H b' := by
  unfold vstoreH at h
  split at h
  case isFalse => cases h
  split at h
  case h_2 => cases h
  rename_i cs hb
  split at h
  case isFalse => cases h
  cases h
  refine ⟨by simp, ?_⟩
  rintro b' ⟨cs', h'⟩
  by_cases e : b = b'
  · subst e; exact ⟨_, hb, rfl⟩
  · rw [List.getElem?_set_ne e] at h'; exact ⟨cs', h'⟩

theorem set_map_own {H : Hp} {b : Nat} {es es' : List (V × V)} (hb : H[b]? = some (.map es)) : (H.set b (.map es')).length = H.length ∧ ∀ b', OwnAt (H.set b (.map es')) b' → OwnAt H b' := by
  refine ⟨by simp, ?_⟩
  rintro b' ⟨x, hx, hox⟩
  by_cases e : b = b'
  · subst e; exact ⟨_, hb, rfl⟩
  · rw [List.getElem?_set_ne e] at hx; exact ⟨x, hx, hox⟩
theorem vmput_own {lim : Nat} {agg : Bool} {ks : List CK} {H H' : Hp} {x k v : V} (h : vmput lim agg ks H x k v = some H') : H'.length = H.length ∧ ∀ b', OwnAt H' b' → OwnAt H b' := by
  unfold vmput at h
  split at h
  case h_2 => cases h
  split at h
  case isFalse => cases h
  split at h
  case h_2 => cases h
  rename_i es hb
  split at h
  case isFalse => cases h
  split at h
  · cases h; exact set_map_own hb
  · cases h; exact set_map_own hb
  · cases h
theorem evX_mput_own {lim : Nat} {agg : Bool} {ks : List CK} {H H' : Hp} {xs : List V} {v : V} (h : evX lim H (.mput agg ks) xs = some (v, H')) : H'.length = H.length ∧ ∀ b', OwnAt H' b' → OwnAt H b' := by
  match xs, h with
  | [x, k, v0], h =>
    simp only [evX] at h
    cases hm : vmput lim agg ks H x k v0 with
    | none => rw [hm] at h; cases h
    | some H1 => rw [hm] at h; cases h; exact vmput_own hm
  | [], h => cases h
  | [_], h => cases h
  | [_, _], h => cases h
  | _ :: _ :: _ :: _ :: _, h => cases h
theorem evVal_hst {call : CallFn} {lim : Nat} {vo : VOper} {s : St} {L' : Lo} {H' : Hp} {v : V} (hs : hstore s.fr vo.op = true) (he : evVal call lim vo s = some (v, L', H')) : H'.length = s.H.length ∧ ∀ b', OwnAt H' b' → OwnAt s.H b' := by
  unfold evVal at he
  split at he
  · rename_i hw
    cases hop : vo.op with
    | store sz a x =>
      rw [hop] at hs he
      simp only [hstore] at hs
      split at hs
      case h_2 => cases hs
      rename_i b off heq
      simp only [evOp, heq, vstore] at he
      split at he
      · rename_i v1 L1 H1 h1
        cases he
        split at h1
        case h_2 => cases h1
        rename_i L2 H2 h2
        cases h1
        split at h2
        case isFalse => cases h2
        split at h2
        case isFalse => cases h2
        split at h2
        case h_2 => cases h2
        rename_i H3 h3
        cases h2
        exact vstoreH_own h3
      · rename_i f args h1
        split at h1 <;> cases h1
      · cases he
    | x k args =>
      rw [hop] at hs he
      cases k with
      | mput agg ks =>
        simp only [evOp] at he
        cases hx : evX lim s.H (.mput agg ks) (opds s.fr args) with
        | none => rw [hx] at he; simp at he
        | some p =>
          obtain ⟨v1, H1⟩ := p
          rw [hx] at he
          simp only [Option.some.injEq, Prod.mk.injEq] at he
          obtain ⟨rfl, rfl, rfl⟩ := he
          exact evX_mput_own hx
      | _ => simp [hstore] at hs
    | _ => rw [hop] at hs; simp [hstore] at hs
  · cases he
    exact ⟨rfl, fun _ h => h⟩

theorem headOk_spec {fr : Fr} {op : VOp} (h : headOk fr op = true) : headOkS op = true ∧ hstore fr op = false ∧ happ op = false := by
  cases op with
  | store sz a x =>
    simp only [headOk] at h
    split at h
    case h_2 => cases h
    rename_i heq
    exact ⟨rfl, by simp [hstore, heq], rfl⟩
  | x k args => simp only [headOk] at h; cases k <;> first | (cases h; done) | exact ⟨h, rfl, rfl⟩
  | _ => first | (simp [headOk] at h; done) | exact ⟨rfl, rfl, rfl⟩

/-- an append: the rows that were there stand, or are dead -/
def AppStep (H H' : Hp) : Prop := H.length ≤ H'.length ∧ ∀ b, b < H.length → H'[b]? = H[b]? ∨ H'[b]? = some .dead
theorem AppStep.own {H H' : Hp} (h : AppStep H H') : ∀ b, b < H.length → OwnAt H' b → OwnAt H b := by
  rintro b hb ⟨x, hx, ho⟩
  rcases h.2 b hb with e | e
  · exact ⟨x, by rw [← e]; exact hx, ho⟩
  · rw [e] at hx; cases hx; cases ho
theorem vappend_step {lim sz bytes : Nat} {H H' : Hp} {x y v : V} (h : vappend lim sz bytes H x y = some (v, H')) : AppStep H H' := by
  unfold vappend at h
  repeat' (split at h)
  all_goals (first | (cases h; done) | skip)
  · cases h; exact ⟨Nat.le_refl _, fun _ _ => Or.inl rfl⟩
  · cases h; exact ⟨by simp, fun b hb => Or.inl (List.getElem?_append_left hb)⟩
  · cases h
    refine ⟨by simp, fun b hb => ?_⟩
    rw [List.getElem?_append_left (by simpa using hb)]
    rename_i b0 off0 len0 sz0 hc0 x0 cs0 hq0 h20 h10 h00
    by_cases e : b0 = b
    · subst e; right; simp [hb]
    · left; rw [List.getElem?_set_ne e]
  · cases h; exact ⟨Nat.le_refl _, fun _ _ => Or.inl rfl⟩
  · cases h; exact ⟨by simp, fun b hb => Or.inl (List.getElem?_append_left hb)⟩
theorem evVal_happ {call : CallFn} {lim : Nat} {vo : VOper} {s : St} {L' : Lo} {H' : Hp} {v : V} (hs : happ vo.op = true) (he : evVal call lim vo s = some (v, L', H')) : AppStep s.H H' := by
  unfold evVal at he
  split at he
  · cases hop : vo.op with
    | append sz bytes x y =>
      rw [hop] at he
      simp only [evOp] at he
      cases hq : vappend lim sz bytes s.H (opd s.fr x) (opd s.fr y) with
      | none => rw [hq] at he; simp at he
      | some p =>
        obtain ⟨v1, H1⟩ := p
        rw [hq] at he
        simp only [Option.some.injEq, Prod.mk.injEq] at he
        obtain ⟨rfl, rfl, rfl⟩ := he
        exact vappend_step hq
    | _ => rw [hop] at hs; simp [happ] at hs
  · cases he
    exact ⟨Nat.le_refl _, fun _ _ => Or.inl rfl⟩
theorem happ_touch {fr : Fr} {op : VOp} (h : happ op = true) : hfree fr op = false := by
  cases op <;> first | rfl | (simp [happ] at h; done)
theorem happ_htouch {op : VOp} (h : happ op = true) : htouch op = true := by
  cases op <;> first | rfl | (simp [happ] at h; done)
theorem happ_hstore {fr : Fr} {op : VOp} (h : happ op = true) : hstore fr op = false := by
  cases op <;> first | rfl | (simp [happ] at h; done)

/-- a head without such writes is one with them -/
theorem evHeadS_of {call : CallFn} {lim : Nat} : ∀ {head : List VOper} {k : Nat} {s s' : St} {ac : List (Nat × Nat)} {hp : HpAcc}, hp.2 = false → evHead call k head s ac = some s' → evHeadS call lim k head s ac hp = some s'
  | [], k, s, s', ac, hp, _, h => h
  | o :: head, k, s, s', ac, hp, hhp, h => by
    simp only [evHead] at h
    split at h
    · cases h
    rename_i ac1 hac
    split at h
    case h_2 => cases h
    rename_i s1 h1
    have key : ∃ hp', hp'.2 = false ∧ headAccS o k s ac hp = some (ac1, hp') ∧ evStep call (headLim lim o.op s) o s = some s1 := by
      unfold headAcc at hac
      split at hac
      · rename_i hw
        split at hac
        case isFalse => cases hac
        rename_i hok
        obtain ⟨k1, k2, k3⟩ := headOk_spec hok
        have hh : ∃ hp', hp'.2 = false ∧ heapAcc s.fr o.late o.op k hp = some hp' := by
          unfold heapAcc
          split
          · exact ⟨hp, hhp, rfl⟩
          · simp [k2, k3, hhp]
        obtain ⟨hp', h2, h3⟩ := hh
        refine ⟨hp', h2, ?_, ?_⟩
        · unfold headAccS
          rw [if_pos hw, if_pos k1, h3]
          simp only
          split at hac
          · rw [← Option.some.inj hac]
          · split at hac
            · rename_i hx; rw [if_pos hx, ← Option.some.inj hac]
            · cases hac
        · unfold headLim; rw [k2, k3]; exact h1
      · rename_i hw
        refine ⟨hp, hhp, ?_, ?_⟩
        · unfold headAccS; rw [if_neg hw, ← Option.some.inj hac]
        · unfold evStep evVal at h1 ⊢
          rw [if_neg hw] at h1 ⊢
          exact h1
    obtain ⟨hp', h2, h3, h4⟩ := key
    simp only [evHeadS, h3, h4]
    exact evHeadS_of h2 h

/-! the head's run in the order of the text -/
structure Run (call : CallFn) (lim : Nat) (head : List VOper) (σ : Nat → St) (acc : Nat → List (Nat × Nat)) (hp : Nat → HpAcc) (val : Nat → V) : Prop where
  step : ∀ (i : Nat) vo, head[i]? = some vo → evVal call (headLim lim vo.op (σ i)) vo (σ i) = some (val i, (σ (i + 1)).L, (σ (i + 1)).H) ∧ (σ (i + 1)).fr = putD (σ i).fr vo.dst (val i)
  acc : ∀ (i : Nat) vo, head[i]? = some vo → headAccS vo i (σ i) (acc i) (hp i) = some (acc (i + 1), hp (i + 1))

theorem run_of {call : CallFn} {lim : Nat} : ∀ {head : List VOper} {k : Nat} {s s' : St} {ac : List (Nat × Nat)} {h0 : HpAcc}, evHeadS call lim k head s ac h0 = some s' →
    ∃ (σ : Nat → St) (acc : Nat → List (Nat × Nat)) (hp : Nat → HpAcc) (val : Nat → V), σ 0 = s ∧ σ head.length = s' ∧ acc 0 = ac ∧ hp 0 = h0 ∧
      (∀ (i : Nat) vo, head[i]? = some vo → evVal call (headLim lim vo.op (σ i)) vo (σ i) = some (val i, (σ (i + 1)).L, (σ (i + 1)).H) ∧ (σ (i + 1)).fr = putD (σ i).fr vo.dst (val i)) ∧
      (∀ (i : Nat) vo, head[i]? = some vo → headAccS vo (k + i) (σ i) (acc i) (hp i) = some (acc (i + 1), hp (i + 1)))
  | [], k, s, s', ac, h0, h => by
    simp [evHeadS] at h; subst h
    exact ⟨fun _ => s, fun _ => ac, fun _ => h0, fun _ => dv, rfl, rfl, rfl, rfl, fun i vo h => by simp at h, fun i vo h => by simp at h⟩
  | o :: head, k, s, s', ac, h0, h => by
    simp only [evHeadS] at h
    split at h
    · cases h
    rename_i ac1 hp1 hac
    split at h
    case h_2 => cases h
    rename_i s1 h1
    obtain ⟨v, hv, hfr⟩ := evStep_spec h1
    obtain ⟨σ, acc, hp, val, e0, em, ea, eh, hs, ha⟩ := run_of h
    refine ⟨fun i => match i with | 0 => s | i + 1 => σ i, fun i => match i with | 0 => ac | i + 1 => acc i, fun i => match i with | 0 => h0 | i + 1 => hp i, fun i => match i with | 0 => v | i + 1 => val i, rfl, em, rfl, rfl, fun i vo hi => ?_, fun i vo hi => ?_⟩
    · cases i with
      | zero => simp at hi; subst hi; simp only [e0]; exact ⟨hv, hfr⟩
      | succ i => simp at hi; exact hs i vo hi
    · cases i with
      | zero => simp at hi; subst hi; simp only [Nat.add_zero, ea, eh]; exact hac
      | succ i => simp at hi; have := ha i vo hi; rw [show k + (i + 1) = k + 1 + i by omega]; exact this

theorem run_of_head {call : CallFn} {lim : Nat} {head : List VOper} {s s' : St} (h : evHeadS call lim 0 head s [] ([], false) = some s') : ∃ σ acc hp val, σ 0 = s ∧ σ head.length = s' ∧ Run call lim head σ acc hp val := by
  obtain ⟨σ, acc, hp, val, e0, em, ea, eh, hs, ha⟩ := run_of h
  exact ⟨σ, acc, hp, val, e0, em, hs, fun i vo hi => by simpa using ha i vo hi⟩

/-! what slim code says of the region -/
structure RegOk (P : Program) (glob : List Nat) (nt : Nat) (ops : Array Oper) (head : List VOper) : Prop where
  get : ∀ (i : Nat) vo, head[i]? = some vo → ∃ o, ops[i]? = some o ∧ slimOp P glob o = some vo.op ∧ vo.dst = o.dst ∧ (∀ d, o.dst = some d → d < nt) ∧
    (match o.guard with | none => vo.guard = none | some (j, want) => ∃ s, (ops[j]?).bind (·.dst) = some s ∧ vo.guard = some (s, want))
  late : ∀ (i j : Nat) vi vj, head[i]? = some vi → head[j]? = some vj → j < i → (isLoad vi.op || isStore vi.op || happ vi.op) = true → (isStore vj.op || ((isStore vi.op || happ vi.op) && (isLoad vj.op || htouch vj.op))) = true → vi.late.contains j = false → Wt ops j i
  len : head.length ≤ ops.size

theorem mem_isMem {fr : Fr} {op : VOp} {id : Nat} (h : memId fr op = some id) : (isLoad op || isStore op) = true := by
  cases op <;> simp [memId] at h <;> rfl
theorem target_isStore {fr : Fr} {op : VOp} {id : Nat} (h : target fr op = some id) : isStore op = true := by
  cases op <;> simp only [target] at h <;> first | rfl | (cases h; done)

theorem accOk_spec {late : List Nat} {id : Nat} : ∀ {acc : List (Nat × Nat)}, accOk late id acc = true → ∀ j, (j, id) ∈ acc → late.contains j = false
  | [], _, j, h => by simp at h
  | (j', id') :: rest, h, j, hj => by
    simp only [accOk, Bool.and_eq_true, Bool.not_eq_true', Bool.and_eq_false_iff] at h
    rcases List.mem_cons.1 hj with e | hj
    · cases e
      rcases h.1 with h1 | h1
      · exact h1
      · simp at h1
    · exact accOk_spec h.2 j hj

section
variable {P : Program} {call : CallFn} {glob : List Nat} {nt : Nat} {ops : Array Oper} {head : List VOper} {σ : Nat → St} {acc : Nat → List (Nat × Nat)} {hp : Nat → HpAcc} {val : Nat → V} {lim : Nat}

/-- operation k looks at, or writes, variable id -/
def acts (head : List VOper) (σ : Nat → St) (k id : Nat) : Prop := ∃ vo, head[k]? = some vo ∧ wanted (σ k).fr vo.guard = true ∧ memId (σ k).fr vo.op = some id
def stores (head : List VOper) (σ : Nat → St) (k id : Nat) : Prop := ∃ vo, head[k]? = some vo ∧ wanted (σ k).fr vo.guard = true ∧ target (σ k).fr vo.op = some id

theorem stores_acts {k id : Nat} (h : stores head σ k id) : acts head σ k id := by
  obtain ⟨vo, h1, h2, h3⟩ := h
  exact ⟨vo, h1, h2, target_mem h3⟩

theorem accS_spec {o : VOper} {k : Nat} {s : St} {ac ac' : List (Nat × Nat)} {h h' : HpAcc} (hw : wanted s.fr o.guard = true) (he : headAccS o k s ac h = some (ac', h')) :
    headOkS o.op = true ∧ heapAcc s.fr o.late o.op k h = some h' ∧ ((memId s.fr o.op = none ∧ ac' = ac) ∨ ∃ id, memId s.fr o.op = some id ∧ accOk o.late id ac = true ∧ ac' = (k, id) :: ac) := by
  unfold headAccS at he
  rw [if_pos hw] at he
  split at he
  case isFalse => cases he
  rename_i hok
  refine ⟨hok, ?_⟩
  split at he
  · cases he
  rename_i h1 hh
  split at he
  · rename_i hm; cases he; exact ⟨hh, Or.inl ⟨hm, rfl⟩⟩
  · rename_i id hm
    split at he
    · rename_i hx; cases he; exact ⟨hh, Or.inr ⟨id, hm, hx, rfl⟩⟩
    · cases he

theorem acc_mem (R : Run call lim head σ acc hp val) : ∀ {k : Nat}, k ≤ head.length → ∀ {i id : Nat}, i < k → acts head σ i id → (i, id) ∈ acc k
  | 0, _, i, id, h, _ => absurd h (by omega)
  | k + 1, hk, i, id, h, ha => by
    obtain ⟨vo, hvo⟩ : ∃ vo, head[k]? = some vo := ⟨head[k], List.getElem?_eq_getElem (by omega)⟩
    have hacc := R.acc k vo hvo
    have mono : ∀ x, x ∈ acc k → x ∈ acc (k + 1) := by
      intro x hx
      cases hw : wanted (σ k).fr vo.guard with
      | false =>
        unfold headAccS at hacc
        simp only [hw, Bool.false_eq_true, if_false, Option.some.injEq, Prod.mk.injEq] at hacc
        rw [← hacc.1]; exact hx
      | true =>
        obtain ⟨_, _, ⟨_, e⟩ | ⟨_, _, _, e⟩⟩ := accS_spec hw hacc
        · rw [e]; exact hx
        · rw [e]; exact List.mem_cons_of_mem _ hx
    by_cases e : i = k
    · subst e
      obtain ⟨vo', h1, h2, h3⟩ := ha
      rw [hvo] at h1; cases h1
      obtain ⟨_, _, ⟨e1, e⟩ | ⟨id', e1, _, e⟩⟩ := accS_spec h2 hacc
      · rw [e1] at h3; cases h3
      · rw [e1] at h3; cases h3; rw [e]; simp
    · exact mono _ (acc_mem R (by omega) (by omega) ha)

theorem conflict (R : Run call lim head σ acc hp val) (G : RegOk P glob nt ops head) {i k id : Nat} (hik : i < k) (hk : k < head.length) (hi : acts head σ i id) (hka : acts head σ k id) (hst : stores head σ i id ∨ stores head σ k id) :
    Wt ops i k := by
  have hmem := acc_mem R (Nat.le_of_lt hk) hik hi
  obtain ⟨vk, h1, h2, h3⟩ := hka
  obtain ⟨vi, g1, g2, g3⟩ := hi
  have hacc := R.acc k vk h1
  have hok : accOk vk.late id (acc k) = true := by
    obtain ⟨_, _, ⟨e1, e⟩ | ⟨id', e1, hok, e⟩⟩ := accS_spec h2 hacc
    · rw [e1] at h3; cases h3
    · rw [e1] at h3; cases h3; exact hok
  have hl := accOk_spec hok i hmem
  refine G.late k i vk vi h1 g1 hik (by rw [mem_isMem h3]; rfl) ?_ hl
  rcases hst with ⟨v, a1, _, a3⟩ | ⟨v, a1, _, a3⟩
  · rw [g1] at a1; cases a1; simp [target_isStore a3]
  · rw [h1] at a1; cases a1
    have := mem_isMem g3
    simp only [Bool.or_eq_true] at this ⊢
    rcases this with h | h
    · right; simp [target_isStore a3, h]
    · left; exact h

/-- operation k looks into the heap, or writes it -/
def touches (head : List VOper) (σ : Nat → St) (k : Nat) : Prop := ∃ vo, head[k]? = some vo ∧ wanted (σ k).fr vo.guard = true ∧ hfree (σ k).fr vo.op = false
def apps (head : List VOper) (σ : Nat → St) (k : Nat) : Prop := ∃ vo, head[k]? = some vo ∧ wanted (σ k).fr vo.guard = true ∧ happ vo.op = true
def hst (head : List VOper) (σ : Nat → St) (k : Nat) : Prop := ∃ vo, head[k]? = some vo ∧ wanted (σ k).fr vo.guard = true ∧ hstore (σ k).fr vo.op = true

theorem hstore_touch {fr : Fr} {op : VOp} (h : hstore fr op = true) : hfree fr op = false := by
  cases op with
  | store sz a x =>
    simp only [hstore] at h
    split at h
    case h_2 => cases h
    rename_i heq
    simp [hfree, heq]
  | x k args => cases k <;> first | rfl | (simp [hstore] at h; done)
  | _ => simp [hstore] at h
theorem hstore_isStore {fr : Fr} {op : VOp} (h : hstore fr op = true) : isStore op = true := by
  cases op with
  | x k args => cases k <;> first | rfl | (simp [hstore] at h; done)
  | _ => first | rfl | (simp [hstore] at h; done)
theorem hfree_htouch {fr : Fr} {op : VOp} (h : hfree fr op = false) : htouch op = true := by
  cases op <;> first | rfl | (simp [hfree] at h; simp [htouch, h]; done) | (simp [hfree] at h; done)
theorem hst_touches {k : Nat} (h : hst head σ k) : touches head σ k := by
  obtain ⟨vo, h1, h2, h3⟩ := h
  exact ⟨vo, h1, h2, hstore_touch h3⟩

theorem apps_touches {k : Nat} (h : apps head σ k) : touches head σ k := by
  obtain ⟨vo, h1, h2, h3⟩ := h
  exact ⟨vo, h1, h2, happ_touch h3⟩
theorem apps_hst {k : Nat} (h : apps head σ k) : ¬ hst head σ k := by
  rintro ⟨vo', g1, g2, g3⟩
  obtain ⟨vo, h1, h2, h3⟩ := h
  rw [h1] at g1; cases g1
  rw [happ_hstore h3] at g3; cases g3

theorem lateNone_spec {late : List Nat} : ∀ {l : List Nat}, lateNone late l = true → ∀ j ∈ l, late.contains j = false
  | [], _, j, h => by simp at h
  | i :: l, h, j, hj => by
    simp only [lateNone, Bool.and_eq_true, Bool.not_eq_true'] at h
    rcases List.mem_cons.1 hj with e | hj
    · subst e; exact h.1
    · exact lateNone_spec h.2 j hj

theorem hp_mono (R : Run call lim head σ acc hp val) {k : Nat} (hk : k < head.length) : (∀ x ∈ (hp k).1, x ∈ (hp (k + 1)).1) ∧ ((hp k).2 = true → (hp (k + 1)).2 = true) := by
  obtain ⟨vo, hvo⟩ : ∃ vo, head[k]? = some vo := ⟨head[k], List.getElem?_eq_getElem hk⟩
  have hacc := R.acc k vo hvo
  cases hw : wanted (σ k).fr vo.guard with
  | false =>
    unfold headAccS at hacc
    simp only [hw, Bool.false_eq_true, if_false, Option.some.injEq, Prod.mk.injEq] at hacc
    rw [← hacc.2]; exact ⟨fun _ h => h, fun h => h⟩
  | true =>
    obtain ⟨_, h, _⟩ := accS_spec hw hacc
    unfold heapAcc at h
    split at h
    · rw [← Option.some.inj h]; exact ⟨fun _ h => h, fun h => h⟩
    · split at h
      · split at h
        · rw [← Option.some.inj h]; exact ⟨fun x h => List.mem_cons_of_mem _ h, fun _ => rfl⟩
        · cases h
      · split at h
        · cases h
        · rename_i hn
          have h' : (k :: (hp k).1, false) = hp (k + 1) := by
            split at h
            · split at h
              · exact Option.some.inj h
              · cases h
            · exact Option.some.inj h
          rw [← h']; exact ⟨fun x h => List.mem_cons_of_mem _ h, fun h => absurd h hn⟩

theorem hp_at (R : Run call lim head σ acc hp val) {k : Nat} (ht : touches head σ k) : k ∈ (hp (k + 1)).1 ∧ (hst head σ k → (hp (k + 1)).2 = true ∧ ∃ vo, head[k]? = some vo ∧ lateNone vo.late (hp k).1 = true) ∧ (¬ hst head σ k → (hp k).2 = false) ∧ (apps head σ k → ∃ vo, head[k]? = some vo ∧ lateNone vo.late (hp k).1 = true) := by
  obtain ⟨vo, hvo, hw, hf⟩ := ht
  obtain ⟨_, h, _⟩ := accS_spec hw (R.acc k vo hvo)
  unfold heapAcc at h
  rw [if_neg (by simp [hf])] at h
  split at h
  · rename_i hs
    split at h
    · rename_i hl
      refine ⟨by rw [← Option.some.inj h]; simp, fun _ => ⟨by rw [← Option.some.inj h], vo, hvo, hl⟩, fun hn => absurd ⟨vo, hvo, hw, hs⟩ hn, fun ha => absurd ⟨vo, hvo, hw, hs⟩ (apps_hst ha)⟩
    · cases h
  · rename_i hs
    split at h
    · cases h
    · rename_i hn
      have h' : (k :: (hp k).1, false) = hp (k + 1) ∧ (happ vo.op = true → lateNone vo.late (hp k).1 = true) := by
        split at h
        · rename_i ha
          split at h
          · rename_i hl; exact ⟨Option.some.inj h, fun _ => hl⟩
          · cases h
        · rename_i ha; exact ⟨Option.some.inj h, fun h2 => absurd h2 ha⟩
      refine ⟨by rw [← h'.1]; simp, fun ⟨vo', a1, a2, a3⟩ => ?_, fun _ => by simpa using hn, fun ⟨vo', a1, a2, a3⟩ => ?_⟩
      · rw [hvo] at a1; cases a1; exact absurd a3 hs
      · rw [hvo] at a1; cases a1; exact ⟨vo, hvo, h'.2 a3⟩

theorem hp_mem (R : Run call lim head σ acc hp val) {i : Nat} (ht : touches head σ i) : ∀ {k : Nat}, k ≤ head.length → i < k → i ∈ (hp k).1 ∧ (hst head σ i → (hp k).2 = true)
  | 0, _, h => absurd h (by omega)
  | k + 1, hk, h => by
    by_cases e : i = k
    · subst e; exact ⟨(hp_at R ht).1, fun hs => ((hp_at R ht).2.1 hs).1⟩
    · obtain ⟨h1, h2⟩ := hp_mem R ht (k := k) (by omega) (by omega)
      obtain ⟨m1, m2⟩ := hp_mono R (k := k) (by omega)
      exact ⟨m1 _ h1, fun hs => m2 (h2 hs)⟩

theorem touch_wait (R : Run call lim head σ acc hp val) (G : RegOk P glob nt ops head) {i k : Nat} (hik : i < k) (hk : k < head.length) (hi : touches head σ i) (hs : hst head σ k) : Wt ops i k := by
  have hm := (hp_mem R hi (k := k) (by omega) hik).1
  obtain ⟨_, vk, h1, hl⟩ := (hp_at R (hst_touches hs)).2.1 hs
  obtain ⟨vk', h1', _, h3⟩ := hs
  rw [h1] at h1'; cases h1'
  obtain ⟨vi, g1, _, g3⟩ := hi
  refine G.late k i vk vi h1 g1 hik (by simp [hstore_isStore h3]) (by simp [hstore_isStore h3, hfree_htouch g3]) (lateNone_spec hl i hm)
theorem app_wait (R : Run call lim head σ acc hp val) (G : RegOk P glob nt ops head) {i k : Nat} (hik : i < k) (hk : k < head.length) (hi : touches head σ i) (hs : apps head σ k) : Wt ops i k := by
  have hm := (hp_mem R hi (k := k) (by omega) hik).1
  obtain ⟨vk, h1, hl⟩ := (hp_at R (apps_touches hs)).2.2.2 hs
  obtain ⟨vk', h1', _, h3⟩ := hs
  rw [h1] at h1'; cases h1'
  obtain ⟨vi, g1, _, g3⟩ := hi
  refine G.late k i vk vi h1 g1 hik (by simp [h3]) (by simp [h3, hfree_htouch g3]) (lateNone_spec hl i hm)
theorem touch_last (R : Run call lim head σ acc hp val) {i k : Nat} (hik : i < k) (hk : k < head.length) (hi : hst head σ i) (ht : touches head σ k) : hst head σ k := by
  have hm := (hp_mem R (hst_touches hi) (k := k) (by omega) hik).2 hi
  apply Classical.byContradiction
  intro hn
  rw [(hp_at R ht).2.2.1 hn] at hm; cases hm

theorem run_free (R : Run call lim head σ acc hp val) {i : Nat} (hi : i < head.length) (ht : ¬ touches head σ i) : (σ (i + 1)).H = (σ i).H := by
  obtain ⟨vo, hvo⟩ : ∃ vo, head[i]? = some vo := ⟨head[i], List.getElem?_eq_getElem hi⟩
  refine (evVal_hfree (lim' := 0) (H1 := []) (fun hw => ?_) (R.step i vo hvo).1).1
  cases hf : hfree (σ i).fr vo.op with
  | true => rfl
  | false => exact absurd ⟨vo, hvo, hw, hf⟩ ht
theorem run_free_at (R : Run call lim head σ acc hp val) {i lim' : Nat} {vo : VOper} {H1 : Hp} (hvo : head[i]? = some vo) (ht : ¬ touches head σ i) : evVal call lim' vo ⟨(σ i).fr, (σ i).L, H1⟩ = some (val i, (σ (i + 1)).L, H1) := by
  refine (evVal_hfree (lim' := lim') (H1 := H1) (fun hw => ?_) (R.step i vo hvo).1).2
  cases hf : hfree (σ i).fr vo.op with
  | true => rfl
  | false => exact absurd ⟨vo, hvo, hw, hf⟩ ht
theorem run_hst (R : Run call lim head σ acc hp val) {i : Nat} (hs : hst head σ i) : (σ (i + 1)).H.length = (σ i).H.length ∧ ∀ b, OwnAt (σ (i + 1)).H b → OwnAt (σ i).H b := by
  obtain ⟨vo, hvo, hw, h3⟩ := hs
  exact evVal_hst h3 (R.step i vo hvo).1
theorem run_app (R : Run call lim head σ acc hp val) {i : Nat} (hs : apps head σ i) : AppStep (σ i).H (σ (i + 1)).H := by
  obtain ⟨vo, hvo, hw, h3⟩ := hs
  exact evVal_happ h3 (R.step i vo hvo).1
theorem headLim_not {op : VOp} {s : St} (h : hstore s.fr op = false) (h2 : happ op = false) : headLim lim op s = s.H.length := by simp [headLim, h, h2]
theorem headLim_hst {op : VOp} {s : St} (h : hstore s.fr op = true) : headLim lim op s = lim := by simp [headLim, h]
theorem headLim_app {op : VOp} {s : St} (h : happ op = true) : headLim lim op s = lim := by simp [headLim, h]

theorem run_ext (hc : CallExt call) (R : Run call lim head σ acc hp val) {i : Nat} (hi : i < head.length) : ((σ i).H.length ≤ (σ (i + 1)).H.length ∧ (∀ b, b < (σ i).H.length → ((¬ hst head σ i ∧ ¬ apps head σ i) ∨ b < lim) → (σ (i + 1)).H[b]? = (σ i).H[b]?)) ∧ (σ i).L.length ≤ (σ (i + 1)).L.length ∧
    ∀ id, id < (σ i).L.length → ¬ stores head σ i id → (σ (i + 1)).L[id]? = (σ i).L[id]? := by
  obtain ⟨vo, hvo⟩ : ∃ vo, head[i]? = some vo := ⟨head[i], List.getElem?_eq_getElem hi⟩
  obtain ⟨h1, h2, h3⟩ := evVal_ext hc (R.step i vo hvo).1
  refine ⟨⟨h1.1, fun b hb hor => ?_⟩, h2, fun id hid hns => h3 id hid (fun ⟨a, b⟩ => hns ⟨vo, hvo, a, b⟩)⟩
  by_cases ht : touches head σ i
  · cases hh : hstore (σ i).fr vo.op with
    | false =>
      cases ha : happ vo.op with
      | false =>
        rw [headLim_not hh ha] at h1
        exact h1.2 b hb hb
      | true =>
        have hs : apps head σ i := by
          obtain ⟨vo', g1, g2, _⟩ := ht
          rw [hvo] at g1; cases g1; exact ⟨vo, hvo, g2, ha⟩
        rw [headLim_app ha] at h1
        rcases hor with h | h
        · exact absurd hs h.2
        · exact h1.2 b hb h
    | true =>
      have hs : hst head σ i := by
        obtain ⟨vo', g1, g2, _⟩ := ht
        rw [hvo] at g1; cases g1; exact ⟨vo, hvo, g2, hh⟩
      rw [headLim_hst hh] at h1
      rcases hor with h | h
      · exact absurd hs h.1
      · exact h1.2 b hb h
  · rw [run_free R hi ht]

theorem run_Hle (hc : CallExt call) (R : Run call lim head σ acc hp val) {i : Nat} : ∀ {j : Nat}, i ≤ j → j ≤ head.length → (σ i).H.length ≤ (σ j).H.length
  | 0, h, _ => by have : i = 0 := by omega
                  subst this; exact Nat.le_refl _
  | j + 1, h, hj => by
    by_cases e : i = j + 1
    · subst e; exact Nat.le_refl _
    · have h1 := run_Hle hc R (i := i) (j := j) (by omega) (by omega)
      obtain ⟨⟨e1, _⟩, _, _⟩ := run_ext hc R (i := j) (by omega)
      omega
/-- operation i lets row b die -/
def kills (σ : Nat → St) (i b : Nat) : Prop := b < (σ i).H.length ∧ (σ i).H[b]? ≠ some .dead ∧ (σ (i + 1)).H[b]? = some .dead
theorem run_kill (hc : CallExt call) (R : Run call lim head σ acc hp val) {i : Nat} : ∀ {j : Nat}, i ≤ j → j ≤ head.length → (∀ k, i ≤ k → k < j → ¬ hst head σ k) → ∀ b, b < (σ i).H.length →
    (σ j).H[b]? = (σ i).H[b]? ∨ ((σ j).H[b]? = some .dead ∧ ∃ k, i ≤ k ∧ k < j ∧ apps head σ k ∧ kills σ k b)
  | 0, h, _, _, b, _ => by have : i = 0 := by omega
                           subst this; exact Or.inl rfl
  | j + 1, h, hj, hn, b, hb => by
    by_cases e : i = j + 1
    · subst e; exact Or.inl rfl
    · have ih := run_kill hc R (i := i) (j := j) (by omega) (by omega) (fun k a b => hn k a (by omega)) b hb
      have h2 := run_Hle hc R (i := i) (j := j) (by omega) (by omega)
      have hnj := hn j (by omega) (by omega)
      by_cases ha : apps head σ j
      · rcases (run_app R ha).2 b (by omega) with e1 | e1
        · rw [e1]
          rcases ih with e2 | ⟨e2, k, k1, k2, k3⟩
          · exact Or.inl e2
          · exact Or.inr ⟨e2, k, k1, by omega, k3⟩
        · rcases ih with e2 | ⟨e2, k, k1, k2, k3⟩
          · by_cases hd : (σ j).H[b]? = some .dead
            · left; rw [e1, ← e2, hd]
            · exact Or.inr ⟨e1, j, by omega, by omega, ha, by omega, hd, e1⟩
          · exact Or.inr ⟨e1, k, k1, by omega, k3⟩
      · obtain ⟨⟨e1, e2⟩, _, _⟩ := run_ext hc R (i := j) (by omega)
        rw [e2 b (by omega) (Or.inl ⟨hnj, ha⟩)]
        rcases ih with e2 | ⟨e2, k, k1, k2, k3⟩
        · exact Or.inl e2
        · exact Or.inr ⟨e2, k, k1, by omega, k3⟩
theorem run_dead (hc : CallExt call) (R : Run call lim head σ acc hp val) {i j b : Nat} (h : i ≤ j) (hj : j ≤ head.length) (hn : ∀ k, i ≤ k → k < j → ¬ hst head σ k) (hb : (σ i).H[b]? = some .dead) : (σ j).H[b]? = some .dead := by
  rcases run_kill hc R h hj hn b (List.getElem?_eq_some_iff.1 hb).1 with e | e
  · rw [e]; exact hb
  · exact e.1
theorem run_lim (hc : CallExt call) (R : Run call lim head σ acc hp val) {i : Nat} : ∀ {j : Nat}, i ≤ j → j ≤ head.length → ∀ b, b < (σ i).H.length → b < lim → (σ j).H[b]? = (σ i).H[b]?
  | 0, h, _, b, _, _ => by have : i = 0 := by omega
                           subst this; rfl
  | j + 1, h, hj, b, hb, hl => by
    by_cases e : i = j + 1
    · subst e; rfl
    · have h1 := run_lim hc R (i := i) (j := j) (by omega) (by omega) b hb hl
      have h2 := run_Hle hc R (i := i) (j := j) (by omega) (by omega)
      obtain ⟨⟨e1, e2⟩, _, _⟩ := run_ext hc R (i := j) (by omega)
      exact (e2 b (by omega) (Or.inr hl)).trans h1
theorem run_own (hc : CallExt call) (R : Run call lim head σ acc hp val) {i : Nat} : ∀ {j : Nat}, i ≤ j → j ≤ head.length → ∀ b, b < (σ i).H.length → OwnAt (σ j).H b → OwnAt (σ i).H b
  | 0, h, _, b, _, ho => by have : i = 0 := by omega
                            subst this; exact ho
  | j + 1, h, hj, b, hb, ho => by
    by_cases e : i = j + 1
    · subst e; exact ho
    · refine run_own hc R (i := i) (j := j) (by omega) (by omega) b hb ?_
      have h2 := run_Hle hc R (i := i) (j := j) (by omega) (by omega)
      by_cases hs : hst head σ j
      · exact (run_hst R hs).2 b ho
      · by_cases ha : apps head σ j
        · exact (run_app R ha).own b (by omega) ho
        · obtain ⟨⟨e1, e2⟩, _, _⟩ := run_ext hc R (i := j) (by omega)
          obtain ⟨cs, hcs⟩ := ho
          exact ⟨cs, by rw [← e2 b (by omega) (Or.inl ⟨hs, ha⟩)]; exact hcs⟩
theorem run_same (R : Run call lim head σ acc hp val) {i : Nat} : ∀ {j : Nat}, i ≤ j → j ≤ head.length → (∀ k, i ≤ k → k < j → ¬ touches head σ k) → (σ j).H = (σ i).H
  | 0, h, _, _ => by have : i = 0 := by omega
                     subst this; rfl
  | j + 1, h, hj, hn => by
    by_cases e : i = j + 1
    · subst e; rfl
    · rw [run_free R (by omega) (hn j (by omega) (by omega))]
      exact run_same R (by omega) (by omega) (fun k a b => hn k a (by omega))

theorem run_L (hc : CallExt call) (R : Run call lim head σ acc hp val) {i : Nat} : ∀ {j : Nat}, i ≤ j → j ≤ head.length → (σ i).L.length ≤ (σ j).L.length
  | 0, h, _ => by have : i = 0 := by omega
                  subst this; exact Nat.le_refl _
  | j + 1, h, hj => by
    by_cases e : i = j + 1
    · subst e; exact Nat.le_refl _
    · have h1 := run_L hc R (i := i) (j := j) (by omega) (by omega)
      obtain ⟨_, e2, _⟩ := run_ext hc R (i := j) (by omega)
      omega

open Classical in
/-- operation k writes variable id, or makes it -/
noncomputable def wrt (head : List VOper) (σ : Nat → St) (k id : Nat) : Bool := decide (stores head σ k id) || decide ((σ k).L.length ≤ id ∧ id < (σ (k + 1)).L.length)

theorem wrt_iff {k id : Nat} : wrt head σ k id = true ↔ stores head σ k id ∨ ((σ k).L.length ≤ id ∧ id < (σ (k + 1)).L.length) := by
  simp [wrt]

theorem fr_lw (R : Run call lim head σ acc hp val) : ∀ {k : Nat}, k ≤ head.length → (σ k).fr = lw (σ 0).fr (fun i => (head.getD i default).dst) val (fun _ => true) k
  | 0, _ => rfl
  | k + 1, hk => by
    obtain ⟨vo, hvo⟩ : ∃ vo, head[k]? = some vo := ⟨head[k], List.getElem?_eq_getElem (by omega)⟩
    rw [(R.step k vo hvo).2, fr_lw R (by omega)]
    simp [lw, List.getD_eq_getElem?_getD, hvo]

theorem L_mw (hc : CallExt call) (R : Run call lim head σ acc hp val) : ∀ {k : Nat}, k ≤ head.length → ∀ id, (σ k).L[id]? = mw (fun i => (σ i).L) (wrt head σ) (fun _ => true) k id
  | 0, _, id => rfl
  | k + 1, hk, id => by
    obtain ⟨_, e2, e3⟩ := run_ext hc R (i := k) (by omega)
    simp only [mw, Bool.true_and]
    split
    · rfl
    · rename_i hw
      rw [← L_mw hc R (by omega) id]
      have hn : ¬ (stores head σ k id ∨ ((σ k).L.length ≤ id ∧ id < (σ (k + 1)).L.length)) := fun h => hw (wrt_iff.2 h)
      by_cases hlt : id < (σ k).L.length
      · exact e3 id hlt (fun h => hn (Or.inl h))
      · rw [List.getElem?_eq_none (by omega), List.getElem?_eq_none (by
          by_cases h2 : id < (σ (k + 1)).L.length
          · exact absurd (Or.inr ⟨by omega, h2⟩) hn
          · omega)]

theorem memId_lt {lim : Nat} {fr : Fr} {L : Lo} {H : Hp} {op : VOp} {id : Nat} {r : VNext} (h : evOp lim fr L H op = some r) (hm : memId fr op = some id) : id < L.length := by
  cases op <;> simp only [memId] at hm <;> try (cases hm; done)
  · rename_i g a
    split at hm
    case h_2 => cases hm
    rename_i id' off heq
    cases hm
    simp only [evOp, heq, vload] at h
    cases hq : L[id]? with
    | none => rw [hq] at h; simp [pureV] at h
    | some cs => exact (List.getElem?_eq_some_iff.1 hq).1
  · rename_i sz a x
    split at hm
    case h_2 => cases hm
    rename_i id' off heq
    cases hm
    simp only [evOp, heq, vstore] at h
    cases hq : L[id]? with
    | none => rw [hq] at h; simp at h
    | some cs => exact (List.getElem?_eq_some_iff.1 hq).1

theorem acts_lt (R : Run call lim head σ acc hp val) {k id : Nat} (h : acts head σ k id) : id < (σ k).L.length := by
  obtain ⟨vo, h1, h2, h3⟩ := h
  have := (R.step k vo h1).1
  unfold evVal at this
  rw [if_pos h2] at this
  split at this
  · rename_i h4; exact memId_lt h4 h3
  · rename_i h4; exact memId_lt h4 h3
  · cases this

theorem builtin_no_mem (b : Builtin) (xs : Option (List Opd)) (ts : List TypeId) {vo : VOp} {glob : List Nat} (h : slimBuiltin P glob b xs ts = some vo) : (isLoad vo || isStore vo) = false := by
  unfold slimBuiltin at h
  repeat' (split at h)
  all_goals (first | (cases h; done) | (cases h; rfl) | (simp only [Option.map_eq_some_iff] at h; obtain ⟨_, _, rfl⟩ := h; rfl))

/-- a load's, a store's address is an operand of the model's -/
theorem slim_mem0 {o : Oper} {vo : VOp} (h : slimOp0 P glob o = some vo) (hm : (isLoad vo || isStore vo) = true) : ∃ X x, slimOpd X = some x ∧ ∀ fr id, memId fr vo = some id → ∃ off, opd fr x = .lp id off := by
  cases ho : o.op
  case load t X =>
    simp only [slimOp0, ho] at h
    split at h
    case h_2 => cases h
    rename_i g x hg hx
    cases h
    refine ⟨X, x, hx, fun fr id hid => ?_⟩
    simp only [memId] at hid
    split at hid
    · rename_i id' off heq
      cases hid; exact ⟨off, heq⟩
    · cases hid
  case store t X Y =>
    simp only [slimOp0, ho] at h
    split at h
    case h_2 => cases h
    rename_i g x y hg hx hy
    cases h
    refine ⟨X, x, hx, fun fr id hid => ?_⟩
    simp only [memId] at hid
    split at hid
    · rename_i id' off heq
      cases hid; exact ⟨off, heq⟩
    · cases hid
  case slice t x lo hi mx =>
    exfalso
    cases mx with
    | some m =>
      simp only [slimOp0, ho] at h
      repeat' (split at h)
      all_goals (first | (cases h; done) | (simp only [Option.map_eq_some_iff] at h; obtain ⟨_, _, rfl⟩ := h; simp [isLoad, isStore] at hm; done) | (cases h; simp [isLoad, isStore] at hm; done))
    | none =>
      simp only [slimOp0, ho] at h
      repeat' (split at h)
      all_goals (first | (cases h; done) | (simp only [Option.map_eq_some_iff] at h; obtain ⟨_, _, rfl⟩ := h; simp [isLoad, isStore] at hm; done) | (cases h; simp [isLoad, isStore] at hm; done))
  case next X b =>
    exfalso
    cases b
    all_goals simp only [slimOp0, ho] at h
    all_goals repeat' (split at h)
    all_goals (first | (cases h; done) | (cases h; simp [isLoad, isStore] at hm; done))
  case makeMap t r =>
    exfalso
    cases r
    all_goals simp only [slimOp0, ho] at h
    all_goals (first | (cases h; done) | (cases h; simp [isLoad, isStore] at hm; done))
  case makeFunc fn fs cs =>
    exfalso
    cases fn
    all_goals simp only [slimOp0, ho] at h
    all_goals repeat' (split at h)
    all_goals (first | (cases h; done) | (simp only [Option.map_eq_some_iff] at h; obtain ⟨_, _, rfl⟩ := h; simp [isLoad, isStore] at hm; done) | (cases h; simp [isLoad, isStore] at hm; done))
  case call c =>
    exfalso
    simp only [slimOp0, ho] at h
    cases hc : c.callee with
    | value f =>
      rw [hc] at h
      cases f with
      | func f =>
        simp only at h
        split at h
        · simp only [Option.map_eq_some_iff] at h; obtain ⟨_, _, rfl⟩ := h; simp [isLoad, isStore] at hm
        · cases h
      | tmp n =>
        simp only [Option.map_eq_some_iff] at h; obtain ⟨_, _, rfl⟩ := h; simp [isLoad, isStore] at hm
      | _ => simp at h
    | invoke r m => rw [hc] at h; simp at h
    | builtin b =>
      rw [hc] at h
      simp only at h
      rw [builtin_no_mem b _ _ h] at hm
      cases hm
  case mapUpdate t m k v =>
    simp only [slimOp0, ho] at h
    repeat' (split at h)
    all_goals (first | (cases h; done) | (cases h; exact ⟨m, _, by assumption, fun fr id h => by cases h⟩))
  all_goals
    exfalso
    simp only [slimOp0, ho] at h
    repeat' (split at h)
    all_goals (first | (cases h; done) | (simp only [Option.map_eq_some_iff] at h; obtain ⟨_, _, rfl⟩ := h; simp [isLoad, isStore] at hm; done) | (cases h; simp [isLoad, isStore] at hm; done))

theorem slim_mem {o : Oper} {vo : VOp} (h : slimOp P glob o = some vo) (hm : (isLoad vo || isStore vo) = true) : ∃ X x, slimOpd X = some x ∧ ∀ fr id, memId fr vo = some id → ∃ off, opd fr x = .lp id off := by
  rcases slimOp_or h with h | rfl
  · exact slim_mem0 h hm
  · simp [isLoad, isStore] at hm

theorem memId_lam {ρ : Loc} {lam : Lam} {fr : Fr} {a : Act} {o : Oper} {vo : VOp} {id : Nat} (hsl : slimOp P glob o = some vo) (hF : FRel ρ lam fr a.tmps) (hm : memId fr vo = some id) : ∃ r, lam id = some r := by
  obtain ⟨X, x, hx, h⟩ := slim_mem hsl (mem_isMem hm)
  obtain ⟨off, heq⟩ := h fr id hm
  have := opd_rel hx hF
  rw [heq] at this
  obtain ⟨r, hr, _⟩ := this.lpt
  exact ⟨r, hr⟩

end
end Go.Proofs.YtpdnbmnnkefedaaGreatDoor.Vm
