/- One operation of a region, with its guard, or a call: the machine's step and the model's. -/
import Derived.Test.YtpdnbmnnkefedaaGreatDoorVmOps6
import Derived.Orders
namespace Go.Proofs.YtpdnbmnnkefedaaGreatDoor.Vm
open Go
set_option linter.unusedVariables false
set_option linter.unusedSimpArgs false

/-! what the machine leaves as it was -/
def HpExt (lim : Nat) (H H' : Hp) : Prop := H.length ≤ H'.length ∧ ∀ b, b < H.length → b < lim → H'[b]? = H[b]?

theorem HpExt.refl {lim : Nat} {H : Hp} : HpExt lim H H := ⟨Nat.le_refl _, fun _ _ _ => rfl⟩
theorem HpExt.trans {lim : Nat} {H H' H'' : Hp} (h : HpExt lim H H') (k : HpExt lim H' H'') : HpExt lim H H'' :=
  ⟨Nat.le_trans h.1 k.1, fun b hb hl => (k.2 b (Nat.lt_of_lt_of_le hb h.1) hl).trans (h.2 b hb hl)⟩
theorem HpExt.app {lim : Nat} {H : Hp} (bs : List Blk) : HpExt lim H (H ++ bs) := ⟨by simp, fun b hb _ => List.getElem?_append_left hb⟩
theorem HpExt.push {lim : Nat} {H : Hp} (x : Blk) : HpExt lim H (H ++ [x]) := ⟨by simp, fun b hb _ => List.getElem?_append_left hb⟩

def CallExt (call : CallFn) : Prop := ∀ lim f args H v H', call lim f args H = some (v, H') → HpExt lim H H'

section
variable {lim : Nat} {fr fr' : Fr} {L L' : Lo} {H H' : Hp} {v : V} {op : VOp}

theorem vstoreH_ext {b off : Nat} {xs : List V} (h : vstoreH lim H b off xs = some H') : HpExt lim H H' ∧ H'.length = H.length := by
  unfold vstoreH at h
  split at h
  case isFalse => cases h
  rename_i hl
  split at h
  case h_2 => cases h
  split at h
  case isFalse => cases h
  cases h
  refine ⟨⟨by simp, fun b' hb' hl' => ?_⟩, by simp⟩
  rw [List.getElem?_set_ne (by omega)]

/-- an operation's own target among the activation's variables -/
def target (fr : Fr) : VOp → Option Nat
  | .store _ a _ => match opd fr a with
    | .lp id _ => some id
    | _ => none
  | _ => none

theorem target_mem {id : Nat} (h : target fr op = some id) : memId fr op = some id := by
  cases op <;> simp only [target] at h <;> try (cases h; done)
  simp only [memId]
  split at h
  · rename_i e; rw [e]; exact h
  · cases h

theorem vappend_ext {sz bytes : Nat} {x y : V} {v : V} (happ : vappend lim sz bytes H x y = some (v, H')) : HpExt lim H H' := by
  unfold vappend at happ
  split at happ
  case h_2 => cases happ
  split at happ
  · split at happ
    · cases happ; exact .refl
    · split at happ
      case isFalse => cases happ
      split at happ
      case isFalse => cases happ
      cases happ; exact .push _
  · split at happ
    case isFalse => cases happ
    rename_i hc
    split at happ
    case h_2 => cases happ
    split at happ
    case isFalse => cases happ
    split at happ
    case isFalse => cases happ
    split at happ
    case isFalse => cases happ
    cases happ
    refine ⟨by simp, fun b' hb' hl' => ?_⟩
    rw [List.getElem?_append_left (by simpa using hb'), List.getElem?_set_ne (by omega)]
  · split at happ
    · cases happ; exact .refl
    · split at happ
      case isFalse => cases happ
      split at happ
      case isFalse => cases happ
      cases happ; exact .push _
  · cases happ
theorem optH_eq {r : Option V} {v : V} (h : optH H r = some (v, H')) : r = some v ∧ H' = H := by
  cases r with
  | none => simp [optH] at h
  | some u => simp [optH] at h; exact ⟨by rw [h.1], h.2.symm⟩
theorem vmput_ext {g : Bool} {ks : List CK} {x k u : V} (h : vmput lim g ks H x k u = some H') : HpExt lim H H' := by
  unfold vmput at h
  split at h
  case h_2 => cases h
  split at h
  case isFalse => cases h
  rename_i hl
  split at h
  case h_2 => cases h
  split at h
  case isFalse => cases h
  split at h
  · cases h
    exact ⟨by simp, fun b' hb' hl' => by rw [List.getElem?_set_ne (by omega)]⟩
  · cases h
    exact ⟨by simp, fun b' hb' hl' => by rw [List.getElem?_set_ne (by omega)]⟩
  · cases h
theorem vment_ext {g : Bool} {ks : List CK} {z x k v : V} (h : vment lim g ks z H x k = some (v, H')) : HpExt lim H H' := by
  unfold vment at h
  split at h
  case h_2 => cases h
  split at h
  case isFalse => cases h
  rename_i hl
  split at h
  case h_2 => cases h
  split at h
  case isFalse => cases h
  split at h
  · cases h
    exact ⟨by simp, fun b' hb' hl' => by rw [List.getElem?_set_ne (by omega)]⟩
  · cases h
    exact ⟨by simp, fun b' hb' hl' => by rw [List.getElem?_set_ne (by omega)]⟩
  · cases h
theorem vmest_ext {x n v : V} (h : vmest lim H x n v = some H') : HpExt lim H H' := by
  unfold vmest at h
  split at h
  case h_2 => cases h
  split at h
  case isFalse => cases h
  rename_i hl
  split at h
  case h_2 => cases h
  split at h
  case isFalse => cases h
  split at h
  case h_2 => cases h
  cases h
  exact ⟨by simp, fun b' hb' hl' => by rw [List.getElem?_set_ne (by omega)]⟩
theorem vrange_ext {x v : V} (h : vrange H x = some (v, H')) : HpExt lim H H' := by
  unfold vrange at h
  split at h
  case h_2 => cases h
  cases h; exact .push _
theorem vnext_ext {x v : V} (h : vnext lim H x = some (v, H')) : HpExt lim H H' := by
  unfold vnext at h
  split at h
  case h_2 => cases h
  split at h
  case isFalse => cases h
  rename_i hl
  split at h
  case h_2 => cases h
  split at h
  · cases h
    exact ⟨by simp, fun b' hb' hl' => by rw [List.getElem?_set_ne (by omega)]⟩
  · cases h; exact .refl
theorem vappC_ext {wk : Bool} {sz bytes : Nat} {x y v : V} (h : vappC wk lim sz bytes H x y = some (v, H')) : HpExt lim H H' := by
  unfold vappC at h
  split at h
  case h_2 => exact vappend_ext h
  split at h
  case h_2 => cases h
  split at h
  case isFalse => cases h
  split at h
  case h_2 => cases h
  rename_i H2 h2
  cases h
  split at h2
  · cases h2; exact .refl
  · exact (vstoreH_ext h2).1
theorem vapp0_ext {sz bytes : Nat} {x y v : V} (h : vapp0 sz bytes H x y = some (v, H')) : HpExt lim H H' := by
  unfold vapp0 at h
  split at h
  case h_2 => cases h
  split at h
  case h_2 => cases h
  split at h
  · cases h; exact .refl
  · split at h
    case isFalse => cases h
    split at h
    case isFalse => cases h
    cases h; exact .push _
theorem vappz_ext {sz bytes : Nat} {z : List V} {x y v : V} (h : vappz sz bytes z H x y = some (v, H')) : HpExt lim H H' := by
  unfold vappz at h
  split at h
  case h_2 => cases h
  split at h
  · cases h; exact .refl
  · split at h
    case isFalse => cases h
    cases h; exact .push _
theorem evX_ext {k : XOp} {vs : List V} {v : V} (h : evX lim H k vs = some (v, H')) : HpExt lim H H' := by
  unfold evX at h
  split at h
  · cases h; exact .push _
  · rw [(optH_eq h).2]; exact .refl
  · rename_i x k u
    cases hq : vmput lim _ _ H x k u with
    | none => rw [hq] at h; simp [optV] at h
    | some H1 => rw [hq] at h; simp [optV] at h; rw [← h.2]; exact vmput_ext hq
  · rw [(optH_eq h).2]; exact .refl
  · rw [(optH_eq h).2]; exact .refl
  · rw [(optH_eq h).2]; exact .refl
  · rw [(optH_eq h).2]; exact .refl
  · rw [(optH_eq h).2]; exact .refl
  · exact vappC_ext h
  · cases h; exact .refl
  · exact vapp0_ext h
  · rw [(optH_eq h).2]; exact .refl
  · exact vappz_ext h
  · exact vment_ext h
  · rename_i x n v
    cases hq : vmest lim H x n v with
    | none => rw [hq] at h; simp [optV] at h
    | some H1 => rw [hq] at h; simp [optV] at h; rw [← h.2]; exact vmest_ext hq
  · rw [(optH_eq h).2]; exact .refl
  · exact vrange_ext h
  · exact vnext_ext h
  · rw [(optH_eq h).2]; exact .refl
  · rw [(optH_eq h).2]; exact .refl
  · rw [(optH_eq h).2]; exact .refl
  · rw [(optH_eq h).2]; exact .refl
  · rw [(optH_eq h).2]; exact .refl
  · rw [(optH_eq h).2]; exact .refl
  · rw [(optH_eq h).2]; exact .refl
  · rw [(optH_eq h).2]; exact .refl
  · split at h
    · cases h; exact .refl
    · cases h
  · cases h

theorem evOp_ext (he : evOp lim fr L H op = some (.val v L' H')) : HpExt lim H H' ∧ L.length ≤ L'.length ∧ ∀ i, i < L.length → target fr op ≠ some i → L'[i]? = L[i]? := by
  have pc : ∀ r, pureV L H r = some (.val v L' H') → L' = L ∧ H' = H := by
    intro r h
    cases r <;> simp [pureV] at h
    exact ⟨h.2.1.symm, h.2.2.symm⟩
  have same : L' = L → H' = H → (HpExt lim H H' ∧ L.length ≤ L'.length ∧ ∀ i, i < L.length → target fr op ≠ some i → L'[i]? = L[i]?) := by
    rintro rfl rfl; exact ⟨.refl, Nat.le_refl _, fun _ _ _ => rfl⟩
  have pushH : ∀ x, L' = L → H' = H ++ [x] → (HpExt lim H H' ∧ L.length ≤ L'.length ∧ ∀ i, i < L.length → target fr op ≠ some i → L'[i]? = L[i]?) := by
    rintro x rfl rfl; exact ⟨.push x, Nat.le_refl _, fun _ _ _ => rfl⟩
  have pushL : ∀ x, L' = L ++ [x] → H' = H → (HpExt lim H H' ∧ L.length ≤ L'.length ∧ ∀ i, i < L.length → target fr op ≠ some i → L'[i]? = L[i]?) := by
    rintro x rfl rfl; exact ⟨.refl, by simp, fun i hi _ => List.getElem?_append_left hi⟩
  cases op with
  | new loc z =>
    simp only [evOp] at he
    split at he <;> (simp only [Option.some.injEq, VNext.val.injEq] at he; obtain ⟨_, h1, h2⟩ := he)
    · exact pushL _ h1.symm h2.symm
    · exact pushH _ h1.symm h2.symm
  | box loc x =>
    simp only [evOp] at he
    split at he
    case isFalse => cases he
    split at he <;> (simp only [Option.some.injEq, VNext.val.injEq] at he; obtain ⟨_, h1, h2⟩ := he)
    · exact pushL _ h1.symm h2.symm
    · exact pushH _ h1.symm h2.symm
  | bslice sz len z ps =>
    simp only [evOp] at he
    split at he
    case h_2 => cases he
    simp only [Option.some.injEq, VNext.val.injEq] at he; obtain ⟨_, h1, h2⟩ := he
    exact pushH _ h1.symm h2.symm
  | mks sz bytes z l c =>
    simp only [evOp] at he
    split at he
    case h_2 => cases he
    split at he
    case isFalse => cases he
    simp only [Option.some.injEq, VNext.val.injEq] at he; obtain ⟨_, h1, h2⟩ := he
    exact pushH _ h1.symm h2.symm
  | bytes x =>
    simp only [evOp] at he
    split at he
    case h_2 => cases he
    simp only [Option.some.injEq, VNext.val.injEq] at he; obtain ⟨_, h1, h2⟩ := he
    exact pushH _ h1.symm h2.symm
  | store sz a x =>
    simp only [evOp] at he
    split at he
    case h_2 => cases he
    rename_i L1 H1 hst
    simp only [Option.some.injEq, VNext.val.injEq] at he; obtain ⟨_, rfl, rfl⟩ := he
    unfold vstore at hst
    split at hst
    case isFalse => cases hst
    split at hst
    case isFalse => cases hst
    split at hst
    · rename_i b off heq
      split at hst
      case h_2 => cases hst
      rename_i H2 h2
      cases hst
      exact ⟨(vstoreH_ext h2).1, Nat.le_refl _, fun _ _ _ => rfl⟩
    · rename_i id off heq
      split at hst
      case h_2 => cases hst
      split at hst
      case isFalse => cases hst
      cases hst
      refine ⟨.refl, by simp, fun i hi ht => ?_⟩
      rw [List.getElem?_set_ne (fun e => ht (by simp [target, heq, e]))]
    · cases hst
  | append sz bytes x y =>
    simp only [evOp] at he
    split at he
    case h_2 => cases he
    rename_i v1 H1 happ
    simp only [Option.some.injEq, VNext.val.injEq] at he; obtain ⟨_, rfl, rfl⟩ := he
    refine ⟨?_, Nat.le_refl _, fun _ _ _ => rfl⟩
    unfold vappend at happ
    split at happ
    case h_2 => cases happ
    split at happ
    · split at happ
      · cases happ; exact .refl
      · split at happ
        case isFalse => cases happ
        split at happ
        case isFalse => cases happ
        cases happ; exact .push _
    · split at happ
      case isFalse => cases happ
      rename_i hc
      split at happ
      case h_2 => cases happ
      split at happ
      case isFalse => cases happ
      split at happ
      case isFalse => cases happ
      split at happ
      case isFalse => cases happ
      cases happ
      refine ⟨by simp, fun b' hb' hl' => ?_⟩
      rw [List.getElem?_append_left (by simpa using hb'), List.getElem?_set_ne (by omega)]
    · split at happ
      · cases happ; exact .refl
      · split at happ
        case isFalse => cases happ
        split at happ
        case isFalse => cases happ
        cases happ; exact .push _
    · cases happ
  | copy sz d s =>
    simp only [evOp] at he
    split at he
    case h_2 => cases he
    rename_i v1 H1 hc
    simp only [Option.some.injEq, VNext.val.injEq] at he; obtain ⟨_, rfl, rfl⟩ := he
    refine ⟨?_, Nat.le_refl _, fun _ _ _ => rfl⟩
    unfold vcopy at hc
    split at hc
    case h_2 => cases hc
    split at hc
    case h_2 => cases hc
    split at hc
    · cases hc; exact .refl
    · split at hc
      case h_2 => cases hc
      split at hc
      case isFalse => cases hc
      split at hc
      case h_2 => cases hc
      rename_i H2 h2
      cases hc
      exact (vstoreH_ext h2).1
  | clr sz z x =>
    simp only [evOp] at he
    split at he
    case h_2 => cases he
    rename_i H1 hc
    simp only [Option.some.injEq, VNext.val.injEq] at he; obtain ⟨_, rfl, rfl⟩ := he
    refine ⟨?_, Nat.le_refl _, fun _ _ _ => rfl⟩
    unfold vclr at hc
    split at hc
    · cases hc; exact .refl
    · cases hc; exact .refl
    · split at hc
      case isFalse => cases hc
      split at hc
      · cases hc; exact .refl
      · exact (vstoreH_ext hc).1
    · cases hc
  | x k args =>
    simp only [evOp] at he
    split at he
    case h_2 => cases he
    rename_i v1 H1 hx
    simp only [Option.some.injEq, VNext.val.injEq] at he; obtain ⟨_, rfl, rfl⟩ := he
    exact ⟨evX_ext hx, Nat.le_refl _, fun _ _ _ => rfl⟩
  | _ =>
    simp only [evOp] at he
    first
      | exact same (pc _ he).1 (pc _ he).2
      | (cases he; done)
      | (simp only [Option.some.injEq, VNext.val.injEq] at he; exact same he.2.1.symm he.2.2.symm)
      | (split at he <;> first | (cases he; done) | (simp only [Option.some.injEq, VNext.val.injEq] at he; exact same he.2.1.symm he.2.2.symm) | (split at he <;> first | (cases he; done) | (simp only [Option.some.injEq, VNext.val.injEq] at he; exact same he.2.1.symm he.2.2.symm)))

theorem evVal_ext {call : CallFn} (hc : CallExt call) {o : VOper} {s : St} (he : evVal call lim o s = some (v, L', H')) :
    HpExt lim s.H H' ∧ s.L.length ≤ L'.length ∧ ∀ i, i < s.L.length → ¬ (wanted s.fr o.guard = true ∧ target s.fr o.op = some i) → L'[i]? = s.L[i]? := by
  unfold evVal at he
  split at he
  · rename_i hw
    split at he
    · rename_i v1 L1 H1 h1
      simp only [Option.some.injEq, Prod.mk.injEq] at he
      obtain ⟨rfl, rfl, rfl⟩ := he
      obtain ⟨h2, h3, h4⟩ := evOp_ext h1
      exact ⟨h2, h3, fun i hi ht => h4 i hi (fun e => ht ⟨hw, e⟩)⟩
    · split at he
      · rename_i v1 H1 h2
        simp only [Option.some.injEq, Prod.mk.injEq] at he
        obtain ⟨rfl, rfl, rfl⟩ := he
        exact ⟨hc _ _ _ _ _ _ h2, Nat.le_refl _, fun _ _ _ => rfl⟩
      · cases he
    · cases he
  · simp only [Option.some.injEq, Prod.mk.injEq] at he
    obtain ⟨rfl, rfl, rfl⟩ := he
    exact ⟨.refl, Nat.le_refl _, fun _ _ _ => rfl⟩
end

/-! what an operation looks at -/
def oslots : Opd → List Nat
  | .t n => [n]
  | .c _ => []
def oslotsO : Option Opd → List Nat
  | some x => oslots x
  | none => []
def oslotsL : List Opd → List Nat
  | [] => []
  | x :: xs => oslots x ++ oslotsL xs
def oslotsP : List (Nat × Nat × Opd) → List Nat
  | [] => []
  | (_, _, x) :: xs => oslots x ++ oslotsP xs
def slots : VOp → List Nat
  | .move x | .box _ x | .load _ x | .un _ x | .faddr _ x | .field _ _ x | .ext x _ | .conv _ x | .lenS x | .lenT x => oslots x
  | .pick c a b => oslots c ++ (oslots a ++ oslots b)
  | .new _ _ | .lenA _ => []
  | .build _ ps | .bslice _ _ _ ps => oslotsP ps
  | .mks _ _ _ a x => oslots a ++ oslots x
  | .store _ a x | .bin _ a x | .eqB _ a x | .eqA _ _ a x | .iaddrA _ _ a x | .iaddrS _ a x | .idxA _ _ _ a x | .idxT a x | .append _ _ a x | .copy _ a x | .max2 a x | .min2 a x => oslots a ++ oslots x
  | .slA _ _ x lo hi | .slS _ x lo hi | .slT x lo hi => oslots x ++ (oslotsO lo ++ oslotsO hi)
  | .call _ xs => oslotsL xs
  | .x _ xs => oslotsL xs
  | .max3 x y z | .min3 x y z => oslots x ++ (oslots y ++ oslots z)
  | .nilc x | .clr _ _ x | .eqN _ x | .bytes x => oslots x
  | .mkf _ fs cs => oslotsL fs ++ oslotsL cs
  | .callV x xs => oslots x ++ oslotsL xs
  | .slS3 _ x lo hi mx => oslots x ++ (oslotsO lo ++ (oslotsO hi ++ oslots mx))
  | .stuck => []

section
variable {fr fr' : Fr}
theorem opd_congr {x : Opd} (h : ∀ t ∈ oslots x, fr t = fr' t) : opd fr x = opd fr' x := by
  cases x with
  | t n => exact h n (by simp [oslots])
  | c v => rfl
theorem opdO_congr {x : Option Opd} (h : ∀ t ∈ oslotsO x, fr t = fr' t) : opdO fr x = opdO fr' x := by
  cases x with
  | none => rfl
  | some x => simp only [opdO, opd_congr (x := x) h]
theorem opds_congr : ∀ {xs : List Opd}, (∀ t ∈ oslotsL xs, fr t = fr' t) → opds fr xs = opds fr' xs
  | [], _ => rfl
  | x :: xs, h => by
    simp only [opds, opd_congr (x := x) fun t ht => h t (by simp [oslotsL, ht]), opds_congr (xs := xs) fun t ht => h t (by simp [oslotsL, ht])]
theorem opdP_congr : ∀ {xs : List (Nat × Nat × Opd)}, (∀ t ∈ oslotsP xs, fr t = fr' t) → opdP fr xs = opdP fr' xs
  | [], _ => rfl
  | (o, s, x) :: xs, h => by
    simp only [opdP, opd_congr (x := x) fun t ht => h t (by simp [oslotsP, ht]), opdP_congr (xs := xs) fun t ht => h t (by simp [oslotsP, ht])]

theorem evOp_congr {lim : Nat} {L : Lo} {H : Hp} {op : VOp} (h : ∀ t ∈ slots op, fr t = fr' t) : evOp lim fr L H op = evOp lim fr' L H op ∧ memId fr op = memId fr' op ∧ target fr op = target fr' op := by
  have one : ∀ x : Opd, (∀ t ∈ oslots x, t ∈ slots op) → opd fr x = opd fr' x := fun x hx => opd_congr fun t ht => h t (hx t ht)
  have oneO : ∀ x : Option Opd, (∀ t ∈ oslotsO x, t ∈ slots op) → opdO fr x = opdO fr' x := fun x hx => opdO_congr fun t ht => h t (hx t ht)
  cases op with
  | build z ps => simp only [evOp, memId, target, opdP_congr (xs := ps) h, and_self]
  | bslice sz n z ps => simp only [evOp, memId, target, opdP_congr (xs := ps) h, and_self]
  | mks g g2 z a x => simp only [evOp, memId, target, one a (fun t ht => by simp [slots, ht]), one x (fun t ht => by simp [slots, ht]), and_self]
  | call f xs => simp only [evOp, memId, target, opds_congr (xs := xs) h, and_self]
  | x k xs => simp only [evOp, memId, target, opds_congr (xs := xs) h, and_self]
  | stuck => exact ⟨rfl, rfl, rfl⟩
  | max3 a b c => simp only [evOp, memId, target, one a (fun t ht => by simp [slots, ht]), one b (fun t ht => by simp [slots, ht]), one c (fun t ht => by simp [slots, ht]), and_self]
  | min3 a b c => simp only [evOp, memId, target, one a (fun t ht => by simp [slots, ht]), one b (fun t ht => by simp [slots, ht]), one c (fun t ht => by simp [slots, ht]), and_self]
  | nilc x => simp only [evOp, memId, target, one x (fun t ht => ht), and_self]
  | eqN g x => simp only [evOp, memId, target, one x (fun t ht => ht), and_self]
  | bytes x => simp only [evOp, memId, target, one x (fun t ht => ht), and_self]
  | clr g z x => simp only [evOp, memId, target, one x (fun t ht => ht), and_self]
  | mkf f fs cs => simp only [evOp, memId, target, opds_congr (xs := fs) (fun t ht => h t (by simp [slots, ht])), opds_congr (xs := cs) (fun t ht => h t (by simp [slots, ht])), and_self]
  | callV x xs => simp only [evOp, memId, target, one x (fun t ht => by simp [slots, ht]), opds_congr (xs := xs) (fun t ht => h t (by simp [slots, ht])), and_self]
  | slS3 sz x lo hi mx =>
    simp only [evOp, memId, target, one x (fun t ht => by simp [slots, ht]), oneO lo (fun t ht => by simp [slots, ht]), oneO hi (fun t ht => by simp [slots, ht]), one mx (fun t ht => by simp [slots, ht]), and_self]
  | new loc z => exact ⟨rfl, rfl, rfl⟩
  | lenA n => exact ⟨rfl, rfl, rfl⟩
  | pick c a b =>
    simp only [evOp, memId, target, one c (fun t ht => by simp [slots, ht]), one a (fun t ht => by simp [slots, ht]), one b (fun t ht => by simp [slots, ht]), and_self]
  | slA n sz x lo hi =>
    simp only [evOp, memId, target, one x (fun t ht => by simp [slots, ht]), oneO lo (fun t ht => by simp [slots, ht]), oneO hi (fun t ht => by simp [slots, ht]), and_self]
  | slS sz x lo hi =>
    simp only [evOp, memId, target, one x (fun t ht => by simp [slots, ht]), oneO lo (fun t ht => by simp [slots, ht]), oneO hi (fun t ht => by simp [slots, ht]), and_self]
  | slT x lo hi =>
    simp only [evOp, memId, target, one x (fun t ht => by simp [slots, ht]), oneO lo (fun t ht => by simp [slots, ht]), oneO hi (fun t ht => by simp [slots, ht]), and_self]
  | move x => simp only [evOp, memId, target, one x (fun t ht => ht), and_self]
  | box l x => simp only [evOp, memId, target, one x (fun t ht => ht), and_self]
  | load g x => simp only [evOp, memId, target, one x (fun t ht => ht), and_self]
  | un g x => simp only [evOp, memId, target, one x (fun t ht => ht), and_self]
  | faddr g x => simp only [evOp, memId, target, one x (fun t ht => ht), and_self]
  | field g g2 x => simp only [evOp, memId, target, one x (fun t ht => ht), and_self]
  | ext x g => simp only [evOp, memId, target, one x (fun t ht => ht), and_self]
  | conv g x => simp only [evOp, memId, target, one x (fun t ht => ht), and_self]
  | lenS x => simp only [evOp, memId, target, one x (fun t ht => ht), and_self]
  | lenT x => simp only [evOp, memId, target, one x (fun t ht => ht), and_self]
  | store g a x => simp only [evOp, memId, target, one a (fun t ht => by simp [slots, ht]), one x (fun t ht => by simp [slots, ht]), and_self]
  | bin g a x => simp only [evOp, memId, target, one a (fun t ht => by simp [slots, ht]), one x (fun t ht => by simp [slots, ht]), and_self]
  | eqB g a x => simp only [evOp, memId, target, one a (fun t ht => by simp [slots, ht]), one x (fun t ht => by simp [slots, ht]), and_self]
  | eqA g g2 a x => simp only [evOp, memId, target, one a (fun t ht => by simp [slots, ht]), one x (fun t ht => by simp [slots, ht]), and_self]
  | iaddrA g g2 a x => simp only [evOp, memId, target, one a (fun t ht => by simp [slots, ht]), one x (fun t ht => by simp [slots, ht]), and_self]
  | iaddrS g a x => simp only [evOp, memId, target, one a (fun t ht => by simp [slots, ht]), one x (fun t ht => by simp [slots, ht]), and_self]
  | idxA g g2 g3 a x => simp only [evOp, memId, target, one a (fun t ht => by simp [slots, ht]), one x (fun t ht => by simp [slots, ht]), and_self]
  | idxT a x => simp only [evOp, memId, target, one a (fun t ht => by simp [slots, ht]), one x (fun t ht => by simp [slots, ht]), and_self]
  | append g g2 a x => simp only [evOp, memId, target, one a (fun t ht => by simp [slots, ht]), one x (fun t ht => by simp [slots, ht]), and_self]
  | copy g a x => simp only [evOp, memId, target, one a (fun t ht => by simp [slots, ht]), one x (fun t ht => by simp [slots, ht]), and_self]
  | max2 a x => simp only [evOp, memId, target, one a (fun t ht => by simp [slots, ht]), one x (fun t ht => by simp [slots, ht]), and_self]
  | min2 a x => simp only [evOp, memId, target, one a (fun t ht => by simp [slots, ht]), one x (fun t ht => by simp [slots, ht]), and_self]
end

/-! the slots of slim code are the operands of the model's -/
section
variable {P : Program} {o : Oper} {vo : VOp}
def TmpIn (t : Nat) (l : List Operand) : Prop := Operand.tmp t ∈ l

theorem slimOpd_slots {X : Operand} {x : Opd} (h : slimOpd X = some x) : ∀ t ∈ oslots x, X = .tmp t := by
  intro t ht
  cases X with
  | tmp n => simp [slimOpd] at h; subst h; simp [oslots] at ht; rw [ht]
  | const v => simp only [slimOpd, Option.map_eq_some_iff] at h; obtain ⟨u, _, rfl⟩ := h; simp [oslots] at ht
  | func f => simp [slimOpd] at h; subst h; simp [oslots] at ht
  | global g => simp only [slimOpd, Option.map_eq_some_iff] at h; obtain ⟨u, _, rfl⟩ := h; simp [oslots] at ht
theorem slimOpds_slots : ∀ {Xs : List Operand} {xs : List Opd}, slimOpds Xs = some xs → ∀ t ∈ oslotsL xs, Operand.tmp t ∈ Xs
  | [], xs, h, t, ht => by simp [slimOpds] at h; subst h; simp [oslotsL] at ht
  | X :: Xs, xs, h, t, ht => by
    simp only [slimOpds] at h
    split at h
    · rename_i p q hp hq
      cases h
      simp only [oslotsL, List.mem_append] at ht
      rcases ht with ht | ht
      · rw [← slimOpd_slots hp t ht]; simp
      · exact List.mem_cons_of_mem _ (slimOpds_slots hq t ht)
    · cases h
theorem partsA_slots {s : Nat} : ∀ {ps : List (Nat × Operand)} {vps : List (Nat × Nat × Opd)}, partsA s ps = some vps → ∀ t ∈ oslotsP vps, Operand.tmp t ∈ ps.map (·.2)
  | [], xs, h, t, ht => by simp [partsA] at h; subst h; simp [oslotsP] at ht
  | (i, X) :: Xs, xs, h, t, ht => by
    simp only [partsA] at h
    split at h
    · rename_i p q hp hq
      cases h
      simp only [oslotsP, List.mem_append] at ht
      rcases ht with ht | ht
      · simp only [List.map_cons]; rw [← slimOpd_slots hp t ht]; simp
      · exact List.mem_cons_of_mem _ (partsA_slots hq t ht)
    · cases h
theorem partsS_slots {fields : Array Field} : ∀ {ps : List (Nat × Operand)} {vps : List (Nat × Nat × Opd)}, partsS P fields ps = some vps → ∀ t ∈ oslotsP vps, Operand.tmp t ∈ ps.map (·.2)
  | [], xs, h, t, ht => by simp [partsS] at h; subst h; simp [oslotsP] at ht
  | (i, X) :: Xs, xs, h, t, ht => by
    simp only [partsS] at h
    split at h
    · rename_i f p q hf hp hq
      split at h
      · cases h
        simp only [oslotsP, List.mem_append] at ht
        rcases ht with ht | ht
        · simp only [List.map_cons]; rw [← slimOpd_slots hp t ht]; simp
        · exact List.mem_cons_of_mem _ (partsS_slots hq t ht)
      · cases h
    · cases h


theorem slim_slots0 {glob : List Nat} (h : slimOp0 P glob o = some vo) : ∀ t ∈ slots vo, Operand.tmp t ∈ o.op.operands := by
  have o1 : ∀ {X : Operand} {x : Opd}, slimOpd X = some x → X ∈ o.op.operands → ∀ t ∈ oslots x, Operand.tmp t ∈ o.op.operands := by
    intro X x hx hin t ht
    rw [← slimOpd_slots hx t ht]; exact hin
  have oO : ∀ {X : Option Operand} {x : Option Opd}, slimOpdO X = some x → (∀ Y, X = some Y → Y ∈ o.op.operands) → ∀ t ∈ oslotsO x, Operand.tmp t ∈ o.op.operands := by
    intro X x hx hin t ht
    cases X with
    | none => simp [slimOpdO] at hx; subst hx; simp [oslotsO] at ht
    | some Y =>
      simp only [slimOpdO, Option.map_eq_some_iff] at hx
      obtain ⟨y, hy, rfl⟩ := hx
      exact o1 hy (hin Y rfl) t ht
  intro t ht
  cases ho : o.op with
  | move X =>
    simp only [slimOp0, ho] at h
    split at h
    · simp only [Option.map_eq_some_iff] at h; obtain ⟨x, hx, rfl⟩ := h
      simp only [slots, oslotsL, List.append_nil] at ht
      rw [← ho]; exact o1 hx (by simp [ho, Op.operands]) t ht
    · simp only [Option.map_eq_some_iff] at h; obtain ⟨x, hx, rfl⟩ := h
      rw [← ho]; exact o1 hx (by simp [ho, Op.operands]) t ht
  | makeInterface ty X =>
    simp only [slimOp0, ho] at h
    split at h
    · cases h
    simp only [Option.map_eq_some_iff] at h; obtain ⟨x, hx, rfl⟩ := h
    simp only [slots, oslotsL, List.append_nil] at ht
    rw [← ho]; exact o1 hx (by simp [ho, Op.operands]) t ht
  | panic X =>
    simp only [slimOp0, ho, Option.map_eq_some_iff] at h; obtain ⟨x, hx, rfl⟩ := h
    simp only [slots, oslotsL, List.append_nil] at ht
    rw [← ho]; exact o1 hx (by simp [ho, Op.operands]) t ht
  | assign X =>
    simp only [slimOp0, ho, Option.map_eq_some_iff] at h; obtain ⟨x, hx, rfl⟩ := h
    rw [← ho]; exact o1 hx (by simp [ho, Op.operands]) t ht
  | pick C X Y =>
    simp only [slimOp0, ho] at h
    split at h
    case h_2 => cases h
    rename_i c x y hc hx hy
    cases h
    simp only [slots, List.mem_append] at ht
    rw [← ho]
    rcases ht with ht | ht | ht
    · exact o1 hc (by simp [ho, Op.operands]) t ht
    · exact o1 hx (by simp [ho, Op.operands]) t ht
    · exact o1 hy (by simp [ho, Op.operands]) t ht
  | alloc ty =>
    simp only [slimOp0, ho, Option.map_eq_some_iff] at h; obtain ⟨x, hx, rfl⟩ := h
    simp [slots] at ht
  | box ty X =>
    simp only [slimOp0, ho, Option.map_eq_some_iff] at h; obtain ⟨x, hx, rfl⟩ := h
    rw [← ho]; exact o1 hx (by simp [ho, Op.operands]) t ht
  | build ty parts =>
    simp only [slimOp0, ho] at h
    split at h
    · split at h
      · simp only [Option.map_eq_some_iff] at h; obtain ⟨x, hx, rfl⟩ := h
        have := partsS_slots hx t ht
        simpa [Op.operands] using this
      · cases h
    · split at h
      · simp only [Option.map_eq_some_iff] at h; obtain ⟨x, hx, rfl⟩ := h
        have := partsA_slots hx t ht
        simpa [Op.operands] using this
      · cases h
    · cases h
  | buildSlice ty n parts =>
    simp only [slimOp0, ho] at h
    split at h
    · split at h
      · split at h
        · cases h; simp [slots, oslotsL] at ht
        split at h
        · simp only [Option.map_eq_some_iff] at h; obtain ⟨x, hx, rfl⟩ := h
          have := partsA_slots hx t ht
          simpa [Op.operands] using this
        · cases h
      · cases h
    · cases h
  | makeSlice ty X Y =>
    simp only [slimOp0, ho] at h
    split at h
    case h_2 => cases h
    rename_i e x y hu hx hy
    split at h
    case h_2 => cases h
    split at h
    case isFalse => cases h
    cases h
    simp only [slots, List.mem_append] at ht
    rw [← ho]
    rcases ht with ht | ht
    · exact o1 hx (by simp [ho, Op.operands]) t ht
    · exact o1 hy (by simp [ho, Op.operands]) t ht
  | load ty X =>
    simp only [slimOp0, ho] at h
    split at h
    case h_2 => cases h
    rename_i g x hg hx
    cases h
    rw [← ho]; exact o1 hx (by simp [ho, Op.operands]) t ht
  | store ty X Y =>
    simp only [slimOp0, ho] at h
    split at h
    case h_2 => cases h
    rename_i g x y hg hx hy
    cases h
    simp only [slots, List.mem_append] at ht
    rw [← ho]
    rcases ht with ht | ht
    · exact o1 hx (by simp [ho, Op.operands]) t ht
    · exact o1 hy (by simp [ho, Op.operands]) t ht
  | binOp op ty X Y ty2 =>
    simp only [slimOp0, ho] at h
    split at h
    case h_2 => cases h
    rename_i x y hx hy
    have key : t ∈ oslots x ++ oslots y → Operand.tmp t ∈ (Op.binOp op ty X Y ty2).operands := by
      intro ht
      rw [← ho]
      rcases List.mem_append.1 ht with ht | ht
      · exact o1 hx (by simp [ho, Op.operands]) t ht
      · exact o1 hy (by simp [ho, Op.operands]) t ht
    repeat' (split at h)
    all_goals (first | (cases h; done) | (cases h; exact key (by simpa only [slots] using ht)) | (cases h; exact key (List.mem_append.2 (Or.inl (by simpa only [slots] using ht)))) | (cases h; exact key (List.mem_append.2 (Or.inl (by simpa [slots, oslotsL] using ht)))))
  | nilCheck X =>
    simp only [slimOp0, ho, Option.map_eq_some_iff] at h; obtain ⟨x, hx, rfl⟩ := h
    rw [← ho]; exact o1 hx (by simp [ho, Op.operands]) t ht
  | makeFunc fn fs cs =>
    cases fn with
    | func f =>
      simp only [slimOp0, ho] at h
      split at h
      case h_2 => cases h
      rename_i xs ys hxs hys
      cases h
      simp only [slots, List.mem_append] at ht
      simp only [Op.operands, Array.mem_append]
      rcases ht with ht | ht
      · exact Or.inl (by simpa using slimOpds_slots hxs t ht)
      · exact Or.inr (by simpa using slimOpds_slots hys t ht)
    | _ => simp [slimOp0, ho] at h
  | unOp op ty X =>
    simp only [slimOp0, ho, Option.map_eq_some_iff] at h; obtain ⟨x, hx, rfl⟩ := h
    rw [← ho]; exact o1 hx (by simp [ho, Op.operands]) t ht
  | convert s d X =>
    simp only [slimOp0, ho] at h
    split at h
    · rename_i k1 k x h1 h2 hx
      cases h
      rw [← ho]; exact o1 hx (by simp [ho, Op.operands]) t ht
    · rename_i e x h1 h2 hx
      split at h
      · cases h
        rw [← ho]; exact o1 hx (by simp [ho, Op.operands]) t ht
      · cases h
    · rename_i e x h1 h2 hx
      split at h
      · cases h
        simp only [slots, oslotsL, List.append_nil] at ht
        rw [← ho]; exact o1 hx (by simp [ho, Op.operands]) t ht
      · cases h
        simp only [slots, oslotsL, List.append_nil] at ht
        rw [← ho]; exact o1 hx (by simp [ho, Op.operands]) t ht
      · cases h
    · rename_i k x h1 h2 hx
      cases h
      simp only [slots, oslotsL, List.append_nil] at ht
      rw [← ho]; exact o1 hx (by simp [ho, Op.operands]) t ht
    · cases h
  | slice ty X lo hi mx =>
    cases mx with
    | some Mx =>
      simp only [slimOp0, ho] at h
      split at h
      case h_2 => cases h
      rename_i e x lo' hi' mx' hu hx hlo hhi hmx
      simp only [Option.map_eq_some_iff] at h; obtain ⟨s, _, rfl⟩ := h
      simp only [slots, List.mem_append] at ht
      rw [← ho]
      rcases ht with ht | ht | ht | ht
      · exact o1 hx (by simp [ho, Op.operands]) t ht
      · exact oO hlo (fun Y hY => by subst hY; simp [ho, Op.operands]) t ht
      · exact oO hhi (fun Y hY => by subst hY; simp [ho, Op.operands]) t ht
      · exact o1 hmx (by simp [ho, Op.operands]) t ht
    | none =>
      simp only [slimOp0, ho] at h
      have key : ∀ {x : Opd} {lo' hi' : Option Opd}, slimOpd X = some x → slimOpdO lo = some lo' → slimOpdO hi = some hi' → t ∈ oslots x ++ (oslotsO lo' ++ oslotsO hi') → Operand.tmp t ∈ (Op.slice ty X lo hi none).operands := by
        intro x lo' hi' hx hlo hhi ht
        rw [← ho]
        simp only [List.mem_append] at ht
        rcases ht with ht | ht | ht
        · exact o1 hx (by simp [ho, Op.operands]) t ht
        · exact oO hlo (fun Y hY => by subst hY; simp [ho, Op.operands]) t ht
        · exact oO hhi (fun Y hY => by subst hY; simp [ho, Op.operands]) t ht
      split at h
      · rename_i n e x lo' hi' hu hx hlo hhi
        simp only [Option.map_eq_some_iff] at h; obtain ⟨s, _, rfl⟩ := h
        exact key hx hlo hhi ht
      · rename_i e x lo' hi' hu hx hlo hhi
        split at h
        case h_2 => cases h
        split at h
        · cases h
          refine key hx hlo hhi ?_
          cases lo' <;> cases hi' <;> simpa [slots, oslotsL, optL, oslotsO] using ht
        · cases h
          exact key hx hlo hhi ht
      · rename_i x lo' hi' hu hx hlo hhi
        cases h
        exact key hx hlo hhi ht
      · cases h
  | fieldAddr ty X f =>
    simp only [slimOp0, ho] at h
    split at h
    case h_2 => cases h
    rename_i fields x hu hx
    split at h
    case h_2 => cases h
    split at h
    case h_2 => cases h
    split at h
    case isTrue => cases h
    cases h
    rw [← ho]; exact o1 hx (by simp [ho, Op.operands]) t ht
  | field ty X f =>
    simp only [slimOp0, ho] at h
    split at h
    case h_2 => cases h
    rename_i fields x hu hx
    split at h
    case h_2 => cases h
    simp only [Option.map_eq_some_iff] at h; obtain ⟨s, _, rfl⟩ := h
    rw [← ho]; exact o1 hx (by simp [ho, Op.operands]) t ht
  | indexAddr ty X I =>
    simp only [slimOp0, ho] at h
    have key : ∀ {x i : Opd}, slimOpd X = some x → slimOpd I = some i → t ∈ oslots x ++ oslots i → Operand.tmp t ∈ (Op.indexAddr ty X I).operands := by
      intro x i hx hi ht
      rw [← ho]
      rcases List.mem_append.1 ht with ht | ht
      · exact o1 hx (by simp [ho, Op.operands]) t ht
      · exact o1 hi (by simp [ho, Op.operands]) t ht
    split at h
    · rename_i n e x i hu hx hi
      simp only [Option.map_eq_some_iff] at h; obtain ⟨s, _, rfl⟩ := h
      exact key hx hi ht
    · rename_i e x i hu hx hi
      simp only [Option.map_eq_some_iff] at h; obtain ⟨s, _, rfl⟩ := h
      exact key hx hi ht
    · cases h
  | index ty X I =>
    simp only [slimOp0, ho] at h
    have key : ∀ {x i : Opd}, slimOpd X = some x → slimOpd I = some i → t ∈ oslots x ++ oslots i → Operand.tmp t ∈ (Op.index ty X I).operands := by
      intro x i hx hi ht
      rw [← ho]
      rcases List.mem_append.1 ht with ht | ht
      · exact o1 hx (by simp [ho, Op.operands]) t ht
      · exact o1 hi (by simp [ho, Op.operands]) t ht
    split at h
    · rename_i n e x i hu hx hi
      split at h
      · cases h; exact key hx hi ht
      · cases h
    · rename_i x i hu hx hi
      cases h; exact key hx hi ht
    · cases h
  | extract X i =>
    simp only [slimOp0, ho, Option.map_eq_some_iff] at h; obtain ⟨x, hx, rfl⟩ := h
    rw [← ho]; exact o1 hx (by simp [ho, Op.operands]) t ht
  | call c =>
    simp only [slimOp0, ho] at h
    have keyL : ∀ {xs : List Opd}, slimOpds c.args.toList = some xs → t ∈ oslotsL xs → Operand.tmp t ∈ (Op.call c).operands := by
      intro xs hxs ht
      have := slimOpds_slots hxs t ht
      simp only [Op.operands, Call.operands, Array.mem_append]
      exact Or.inr (by simpa using this)
    cases hc : c.callee with
    | value fo =>
      rw [hc] at h
      cases fo with
      | func f =>
        simp only at h
        split at h
        case isFalse => cases h
        simp only [Option.map_eq_some_iff] at h; obtain ⟨xs, hxs, rfl⟩ := h
        exact keyL hxs ht
      | tmp n =>
        simp only [Option.map_eq_some_iff] at h; obtain ⟨xs, hxs, rfl⟩ := h
        simp only [slots, List.mem_append] at ht
        rcases ht with ht | ht
        · simp only [oslots, List.mem_singleton] at ht
          subst ht
          simp only [Op.operands, Call.operands, hc, Array.mem_append]
          exact Or.inl (by simp)
        · exact keyL hxs ht
      | _ => simp at h
    | invoke r m => rw [hc] at h; simp at h
    | builtin b =>
      rw [hc] at h
      simp only at h
      unfold slimBuiltin at h
      have lc : ∀ {x : Opd}, slimOpds c.args.toList = some [x] → t ∈ oslots x → Operand.tmp t ∈ (Op.call c).operands := fun h ht => keyL h (by simpa [oslotsL] using ht)
      have lc3 : ∀ {x y z : Opd}, slimOpds c.args.toList = some [x, y, z] → t ∈ oslots x ++ (oslots y ++ oslots z) → Operand.tmp t ∈ (Op.call c).operands := fun h ht => keyL h (by simpa [oslotsL] using ht)
      have lc2 : ∀ {x y : Opd}, slimOpds c.args.toList = some [x, y] → t ∈ oslots x ++ oslots y → Operand.tmp t ∈ (Op.call c).operands := fun h ht => keyL h (by simpa [oslotsL] using ht)
      cases b with
      | len =>
        simp only at h
        split at h
        · rename_i x t0 ts h1 h2
          split at h
          · cases h; exact lc h1 ht
          · cases h; exact lc h1 ht
          · cases h; simp [slots] at ht
          · cases h; exact lc h1 (by simpa [slots, oslotsL] using ht)
          · cases h
        · cases h
      | append =>
        simp only at h
        split at h
        · rename_i x y t0 u0 ts h1 h2
          split at h
          · split at h
            · split at h
              · split at h
                · cases h; exact lc2 h1 (by simpa [slots, oslotsL] using ht)
                split at h
                · cases h; exact lc2 h1 (by simpa [slots, oslotsL] using ht)
                · cases h; exact lc2 h1 ht
              · cases h
            · cases h
          · split at h
            · split at h
              · cases h; exact lc2 h1 (by simpa [slots, oslotsL] using ht)
              · cases h
            · cases h
          · cases h
        · cases h
      | cap =>
        simp only at h
        split at h
        · rename_i x t0 ts h1 h2
          split at h
          · split at h
            · cases h; exact lc h1 (by simpa [slots, oslotsL] using ht)
            · cases h
          · cases h
        · cases h
      | copy =>
        simp only at h
        split at h
        · rename_i x y t0 ts h1 h2
          split at h
          · simp only [Option.map_eq_some_iff] at h; obtain ⟨s, _, rfl⟩ := h
            exact lc2 h1 ht
          · cases h
        · cases h
      | max =>
        simp only at h
        split at h
        · rename_i x y h1
          cases h; exact lc2 h1 ht
        · rename_i x y z h1
          cases h; exact lc3 h1 ht
        · rename_i x y z u h1
          cases h; exact keyL h1 (by simpa [slots] using ht)
        · cases h
      | min =>
        simp only at h
        split at h
        · rename_i x y h1
          cases h; exact lc2 h1 ht
        · rename_i x y z h1
          cases h; exact lc3 h1 ht
        · cases h
      | clear =>
        simp only at h
        split at h
        · rename_i x t0 ts h1 h2
          split at h
          case h_2 => cases h
          split at h
          case h_2 => cases h
          cases h; exact lc h1 ht
        · cases h
      | _ => simp at h
  | makeMap ty r =>
    cases r with
    | some z => simp [slimOp0, ho] at h
    | none =>
      simp only [slimOp0, ho] at h
      cases h
      simp [slots, oslotsL] at ht
  | lookup ty X K ok =>
    simp only [slimOp0, ho] at h
    split at h
    case h_2 => cases h
    rename_i kt e x k h0 hx hk
    split at h
    case h_2 => cases h
    cases h
    simp only [slots, oslotsL, List.append_nil, List.mem_append] at ht
    rw [← ho]
    rcases ht with ht | ht
    · exact o1 hx (by simp [ho, Op.operands]) t ht
    · exact o1 hk (by simp [ho, Op.operands]) t ht
  | mapUpdate ty M K U =>
    simp only [slimOp0, ho] at h
    split at h
    case h_2 => cases h
    rename_i kt e m k u h0 hm hk hu
    split at h
    case h_2 => cases h
    cases h
    simp only [slots, oslotsL, List.append_nil, List.mem_append] at ht
    rw [← ho]
    rcases ht with ht | ht | ht
    · exact o1 hm (by simp [ho, Op.operands]) t ht
    · exact o1 hk (by simp [ho, Op.operands]) t ht
    · exact o1 hu (by simp [ho, Op.operands]) t ht
  | mapEntry ty M K =>
    simp only [slimOp0, ho] at h
    split at h
    case h_2 => cases h
    rename_i kt e m k h0 hm hk
    split at h
    case h_2 => cases h
    cases h
    simp only [slots, oslotsL, List.append_nil, List.mem_append] at ht
    rw [← ho]
    rcases ht with ht | ht
    · exact o1 hm (by simp [ho, Op.operands]) t ht
    · exact o1 hk (by simp [ho, Op.operands]) t ht
  | range ty X =>
    simp only [slimOp0, ho] at h
    split at h
    case h_2 => cases h
    rename_i x h0 hx
    cases h
    simp only [slots, oslotsL, List.append_nil] at ht
    rw [← ho]
    exact o1 hx (by simp [ho, Op.operands]) t ht
  | next X b =>
    cases b with
    | false => simp [slimOp0, ho] at h
    | true =>
      simp only [slimOp0, ho] at h
      split at h
      case h_2 => cases h
      rename_i x hx
      cases h
      simp only [slots, oslotsL, List.append_nil] at ht
      rw [← ho]
      exact o1 hx (by simp [ho, Op.operands]) t ht
  | entryStore ty M N U =>
    simp only [slimOp0, ho] at h
    split at h
    case h_2 => cases h
    rename_i m n u hm hn hu
    cases h
    simp only [slots, oslotsL, List.append_nil, List.mem_append] at ht
    rw [← ho]
    rcases ht with ht | ht | ht
    · exact o1 hm (by simp [ho, Op.operands]) t ht
    · exact o1 hn (by simp [ho, Op.operands]) t ht
    · exact o1 hu (by simp [ho, Op.operands]) t ht
  | _ => simp [slimOp0, ho] at h
theorem slim_slots {glob : List Nat} (h : slimOp P glob o = some vo) : ∀ t ∈ slots vo, Operand.tmp t ∈ o.op.operands := by
  rcases slimOp_or h with h | rfl
  · exact slim_slots0 h
  · intro t ht; simp [slots] at ht

end
end Go.Proofs.YtpdnbmnnkefedaaGreatDoor.Vm
