/- Maps, and slices whose room is known: what the machine does, the model does. -/
import Derived.Test.YtpdnbmnnkefedaaGreatDoorVmOps5
import Derived.WideKeyRuns
namespace Go.Proofs.YtpdnbmnnkefedaaGreatDoor.Vm
open Go
set_option linter.unusedVariables false
set_option linter.unusedSimpArgs false

section
variable {P : Program} {lim : Nat} {tg A : Nat → Prop} {ρ : Loc} {lam : Lam} {L : Lo} {H H' : Hp} {w : World} {s : Sem Next} {fr : Fr} {a : Act}

theorem ba_beq {a b : ByteArray} : (a == b) = true ↔ a = b := by
  constructor
  · intro h
    cases a; cases b
    have h : (_ == _) = true := h
    congr
    simp only [BEq.beq, ByteArray.beq] at h
    exact Array.eq_of_isEqv _ _ h
  · rintro rfl
    cases a
    show (_ == _) = true
    simp only [BEq.beq, ByteArray.beq]
    exact Array.isEqv_self _
theorem run_getObjM {r : Nat} {es : Array MapEntry} {clock : Nat} (hb : w.heap[r]? = some (.map es clock)) : (getObj r).run P w = .ok (.map es clock) w := by
  simp [getObj, Sem.run, hb]
theorem run_setObjM {r : Nat} {es : Array MapEntry} {clock : Nat} (o : Obj) (hb : w.heap[r]? = some (.map es clock)) : (setObj r o).run P w = .ok () { w with heap := w.heap.setIfInBounds r o } := by
  simp [setObj, Sem.run, hb]
theorem run_findKeyM {kt : TypeId} {d : TypeDesc} {k : Value} {l : List MapEntry} {a : Option (Nat × Value)} (hd : P.underlying kt = some d) (h : Instr.findNow d k l 0 = some a) : (Instr.findKey kt k l).run P w = .ok a w := by
  simp [Instr.findKey, run_underlying hd, Result.andThen, h]
theorem heap_setM {r : Nat} {o o' : Obj} (hb : w.heap[r]? = some o) : (w.heap.setIfInBounds r o')[r]? = some o' ∧ ∀ r', r' ≠ r → (w.heap.setIfInBounds r o')[r']? = w.heap[r']? := by
  have hlt : r < w.heap.size := (Array.getElem?_eq_some_iff.1 hb).1
  exact ⟨by simp [hlt], fun r' hne => by simp [Ne.symm hne]⟩

/-! keys pass the check -/
def CkPart (P : Program) (ρ : Loc) (em : Bool) (d : Nat) : Prop :=
  ∀ (t : TypeId) (ks : List CK), flat P d t = some ks → sizeV P t = some ks.length → ∀ (D : Nat), d ≤ D → ∀ (w : World) (off : Nat) (X : Array Value) (xs : List V) (b : Bool),
    VRs ρ xs ((X.toList.drop off).take ks.length) → eqCells ks xs xs = some b → ∃ a, (part t X off).run P w = .ok a w ∧ (Instr.checkKey em D t a).run P w = .ok () w

theorem part_cut {s : Nat} {k1 k2 : List CK} (hlen : k1.length = s) {o : Nat} {zs : List V} {Z : Array Value} (hz : VRs ρ zs ((Z.toList.drop o).take (k1 ++ k2).length)) :
    VRs ρ (zs.take k1.length) ((Z.toList.drop o).take k1.length) ∧ VRs ρ (zs.drop k1.length) ((Z.toList.drop (o + s)).take k2.length) := by
  have e1 := hz.take k1.length
  have e2 := hz.drop k1.length
  rw [List.take_take, Nat.min_eq_left (by simp)] at e1
  rw [List.drop_take, List.drop_drop, List.length_append, Nat.add_sub_cancel_left, hlen] at e2
  exact ⟨e1, by rw [hlen]; exact e2⟩

/-- a whole struct or array passes -/
theorem ck_agg {em : Bool} {d D : Nat} (ih : CkPart P ρ em d) (hD : d ≤ D) {t : TypeId} {ks : List CK} (h : flat P (d + 1) t = some ks) (hagg : ∃ fs, P.underlying t = some (.struct fs) ∨ ∃ n e, P.underlying t = some (.array n e))
    {X : Array Value} {xs : List V} {b : Bool} (h1 : VRs ρ xs X.toList) (h3 : eqCells ks xs xs = some b) (w : World) : (Instr.checkKey em (D + 1) t (.agg X)).run P w = .ok () w := by
  have hl := eqCells_length h3
  have hX : X.toList.length = ks.length := by rw [← h1.1]; exact hl.1
  obtain ⟨fs, hu | ⟨n, e, hu⟩⟩ := hagg
  · simp only [flat, hu] at h
    split at h
    case isTrue => cases h
    rw [Instr.checkKey]
    simp only [Sem.run_bind, run_underlying hu, Result.andThen_ok]
    rw [← Array.forIn_toList]
    have h1' : VRs ρ xs ((X.toList.drop 0).take ks.length) := by rw [List.drop_zero, List.take_of_length_le (by omega)]; exact h1
    clear h1 hX hl
    clear hu
    generalize fs.toList = L at h ⊢
    revert h h1'
    generalize (0 : Nat) = o
    intro h1 h
    induction L generalizing o ks xs b with
    | nil => simp
    | cons f L ihL =>
      simp only [flatFields] at h
      split at h
      case isFalse => cases h
      rename_i hf
      split at h
      case h_2 => cases h
      rename_i k1 s hk1 hs
      split at h
      case isFalse => cases h
      rename_i hlen
      split at h
      case h_2 => cases h
      rename_i k2 hk2
      cases h
      obtain ⟨b1, b2, g1, g2, _⟩ := eqCells_append h3
      obtain ⟨hfo, hfn⟩ := hf
      obtain ⟨x1, x2⟩ := part_cut hlen h1
      obtain ⟨a, p1, p2⟩ := ih f.type k1 hk1 (by rw [hlen]; exact hs) D hD w o X _ b1 x1 g1
      simp only [List.forIn_cons, Sem.run_bind, hfn, ne_eq, not_false_eq_true, if_true, hfo, Result.andThen_ok, p1, p2, Sem.run_pure]
      exact ihL g2 _ x2 hk2
  · simp only [flat, hu] at h
    split at h
    case h_2 => cases h
    rename_i k0 s hk0 hs
    split at h
    case isFalse => cases h
    rename_i hlen
    cases h
    have hfl : (List.replicate n k0).flatten.length = n * s := by simp [hlen]
    rw [Instr.checkKey]
    simp only [Sem.run_bind, run_underlying hu, Result.andThen_ok]
    simp only [Std.Legacy.Range.forIn_eq_forIn_range', Std.Legacy.Range.size, Nat.sub_zero, Nat.add_one_sub_one, Nat.div_one]
    have h1' : VRs ρ xs ((X.toList.drop (0 * s)).take (List.replicate n k0).flatten.length) := by rw [Nat.zero_mul, List.drop_zero, List.take_of_length_le (by omega)]; exact h1
    clear h1 hX hl hfl hu
    revert h1'
    generalize (0 : Nat) = j
    intro h1
    induction n generalizing j xs b with
    | zero => simp
    | succ n ihn =>
      rw [List.replicate_succ, List.flatten_cons] at h3 h1
      obtain ⟨b1, b2, g1, g2, _⟩ := eqCells_append h3
      obtain ⟨x1, x2⟩ := part_cut hlen h1
      obtain ⟨a, p1, p2⟩ := ih e k0 hk0 (by rw [hlen]; exact hs) D hD w (j * s) X _ b1 x1 g1
      simp only [List.range'_succ, List.forIn_cons, Sem.run_bind, sizeV_run hs, Result.andThen_ok, p1, p2, Sem.run_pure]
      exact ihn g2 (j + 1) (by rw [Nat.add_mul, Nat.one_mul]; exact x2)

theorem ckPart_all (em : Bool) : ∀ d, CkPart P ρ em d
  | 0 => fun t ks h => by simp [flat] at h
  | d + 1 => by
    intro t ks h hs D hD w off X xs b h1 h3
    obtain ⟨D, rfl⟩ : ∃ D', D = D' + 1 := ⟨D - 1, by omega⟩
    have ih := ckPart_all em d
    have hl := eqCells_length h3
    have one : ∀ (k : CK), ks = [k] → ∃ x u, xs = [x] ∧ X[off]? = some u ∧ VR ρ x u ∧ eqCell k x x = some b := by
      intro k hk
      subst hk
      match xs, hl.1 with
      | [x], _ =>
        have hz1 := h1.1
        have hz2 := h1.2 0 (by simp)
        cases hq : X.toList.drop off with
        | nil => rw [hq] at hz1; simp at hz1
        | cons u rest =>
          rw [hq] at hz2
          have e2 : X[off]? = some u := by
            have : (X.toList.drop off)[0]? = some u := by rw [hq]; rfl
            rw [List.getElem?_drop, Nat.add_zero, Array.getElem?_toList] at this
            exact this
          refine ⟨x, u, rfl, e2, by simpa using hz2, ?_⟩
          simp only [eqCells] at h3
          split at h3
          · rename_i p c hp hc
            cases hc; cases h3
            simpa using hp
          · cases h3
    have agg : (∃ fs, P.underlying t = some (.struct fs) ∨ ∃ n e, P.underlying t = some (.array n e)) → ∃ a, (part t X off).run P w = .ok a w ∧ (Instr.checkKey em (D + 1) t a).run P w = .ok () w := by
      intro hagg
      have hisagg : (isAgg t).run P w = .ok true w := by
        obtain ⟨fs, hu | ⟨n, e, hu⟩⟩ := hagg <;> simp [isAgg_of hu]
      refine ⟨.agg (X.extract off (off + ks.length)), ?_, ?_⟩
      · simp only [part, Sem.run_bind, hisagg, Result.andThen_ok, if_true, sizeV_run hs, Sem.run_pure]
      · have hex : (X.extract off (off + ks.length)).toList = (X.toList.drop off).take ks.length := by simp
        exact ck_agg ih (by omega) h hagg (by rw [hex]; exact h1) h3 w
    cases hu : P.underlying t with
    | none => simp [flat, hu] at h
    | some dd =>
      cases dd with
      | int k =>
        simp [flat, hu] at h; subst h
        obtain ⟨x, u, rfl, hu1, hxu, hc⟩ := one _ rfl
        cases x <;> simp [eqCell] at hc
        cases hxu
        exact ⟨_, part_one hu rfl hu1 w, by simp [Instr.checkKey, run_underlying hu]⟩
      | bool =>
        simp [flat, hu] at h; subst h
        obtain ⟨x, u, rfl, hu1, hxu, hc⟩ := one _ rfl
        cases x <;> simp [eqCell] at hc
        cases hxu
        exact ⟨_, part_one hu rfl hu1 w, by simp [Instr.checkKey, run_underlying hu]⟩
      | string =>
        simp [flat, hu] at h; subst h
        obtain ⟨x, u, rfl, hu1, hxu, hc⟩ := one _ rfl
        cases x <;> simp [eqCell] at hc
        cases hxu
        exact ⟨_, part_one hu rfl hu1 w, by simp [Instr.checkKey, run_underlying hu]⟩
      | struct fs => exact agg ⟨fs, Or.inl hu⟩
      | array n e => exact agg ⟨#[], Or.inr ⟨n, e, hu⟩⟩
      | _ => simp [flat, hu] at h

/-! one cell, and another -/
theorem eqCell_same {c : CK} {x y : V} {u v : Value} {b : Bool} (h : eqCell c x y = some b) (hx : VR ρ x u) (hy : VR ρ y v) :
    (∀ d, (match c with | .int k => d = TypeDesc.int k | .bool => d = .bool | .str => d = .string) → Instr.sameNow d u v = some b) ∧ (b = true → ∀ n, Instr.sameBits n v u = true) := by
  cases c <;> cases x <;> cases y <;> simp only [eqCell] at h <;> try (cases h; done)
  · split at h
    case isFalse => cases h
    rename_i hk
    obtain ⟨rfl, rfl⟩ := hk
    cases h
    cases hx; cases hy
    refine ⟨fun d hd => ?_, fun hb n => ?_⟩
    · subst hd; simp [Instr.sameNow]
    · simp [Instr.sameBits] at hb ⊢; exact hb.symm
  · cases h; cases hx; cases hy
    refine ⟨fun d hd => ?_, fun hb n => ?_⟩
    · subst hd; simp [Instr.sameNow]
    · simp [Instr.sameBits] at hb ⊢; exact hb.symm
  · cases h; cases hx; cases hy
    refine ⟨fun d hd => ?_, fun hb n => ?_⟩
    · subst hd; simp [Instr.sameNow]
    · have := ba_beq.1 hb
      subst this
      simp only [Instr.sameBits]; exact ba_beq.2 rfl
theorem eqCells_bits {n : Nat} : ∀ {ks : List CK} {xs ys : List V} {us vs : List Value}, eqCells ks xs ys = some true → VRs ρ xs us → VRs ρ ys vs → vs.length = us.length ∧ (vs.zip us).all (fun (x, y) => Instr.sameBits n x y) = true
  | [], xs, ys, us, vs, h, hx, hy => by
    have hl := eqCells_length h
    have e1 := hx.1; have e2 := hy.1
    have u0 : us = [] := List.eq_nil_of_length_eq_zero (by rw [← e1, hl.1]; rfl)
    have v0 : vs = [] := List.eq_nil_of_length_eq_zero (by rw [← e2, hl.2]; rfl)
    subst u0 v0; simp
  | k :: ks, x :: xs, y :: ys, us, vs, h, hx, hy => by
    have e1 := hx.1; have e2 := hy.1
    match us, vs, e1, e2 with
    | u :: us, v :: vs, e1, e2 =>
      simp only [eqCells] at h
      split at h
      case h_2 => cases h
      rename_i p q hp hq
      simp only [Option.some.injEq, Bool.and_eq_true] at h
      obtain ⟨rfl, rfl⟩ := h
      have hx0 := hx.2 0 (by simp)
      have hy0 := hy.2 0 (by simp)
      simp only [List.getD_cons_zero] at hx0 hy0
      have hxr : VRs ρ xs us := ⟨by simpa using e1, fun i hi => by simpa using hx.2 (i + 1) (by simpa using hi)⟩
      have hyr : VRs ρ ys vs := ⟨by simpa using e2, fun i hi => by simpa using hy.2 (i + 1) (by simpa using hi)⟩
      obtain ⟨g1, g2⟩ := eqCells_bits (n := n) hq hxr hyr
      refine ⟨by simp [g1], ?_⟩
      simp only [List.zip_cons_cons, List.all_cons, (eqCell_same hp hx0 hy0).2 rfl n, Bool.true_and]
      exact g2
  | k :: ks, [], ys, _, _, h, _, _ => by simp [eqCells] at h
  | k :: ks, x :: xs, [], _, _, h, _, _ => by simp [eqCells] at h

/-- a type of keys: a struct or an array; or one cell -/
theorem keyKinds_spec {kt : TypeId} {g : Bool} {ks : List CK} (h : keyKinds P kt = some (g, ks)) : flat P 20 kt = some ks ∧
    (g = true ∧ (∃ fs, P.underlying kt = some (.struct fs) ∨ ∃ n e, P.underlying kt = some (.array n e)) ∨
     g = false ∧ ∃ c d, ks = [c] ∧ P.underlying kt = some d ∧ (match c with | .int k => d = TypeDesc.int k | .bool => d = .bool | .str => d = .string)) := by
  unfold keyKinds at h
  split at h
  · rename_i fs hu
    simp only [Option.map_eq_some_iff, Prod.mk.injEq] at h; obtain ⟨ks', h1, rfl, rfl⟩ := h
    exact ⟨h1, Or.inl ⟨rfl, fs, Or.inl hu⟩⟩
  · rename_i n e hu
    simp only [Option.map_eq_some_iff, Prod.mk.injEq] at h; obtain ⟨ks', h1, rfl, rfl⟩ := h
    exact ⟨h1, Or.inl ⟨rfl, #[], Or.inr ⟨n, e, hu⟩⟩⟩
  · rename_i k hu
    simp only [Option.map_eq_some_iff, Prod.mk.injEq] at h; obtain ⟨ks', h1, rfl, rfl⟩ := h
    refine ⟨h1, Or.inr ⟨rfl, .int k, _, ?_, hu, rfl⟩⟩
    simp [flat, hu] at h1; exact h1.symm
  · rename_i hu
    simp only [Option.map_eq_some_iff, Prod.mk.injEq] at h; obtain ⟨ks', h1, rfl, rfl⟩ := h
    refine ⟨h1, Or.inr ⟨rfl, .bool, _, ?_, hu, rfl⟩⟩
    simp [flat, hu] at h1; exact h1.symm
  · rename_i hu
    simp only [Option.map_eq_some_iff, Prod.mk.injEq] at h; obtain ⟨ks', h1, rfl, rfl⟩ := h
    refine ⟨h1, Or.inr ⟨rfl, .str, _, ?_, hu, rfl⟩⟩
    simp [flat, hu] at h1; exact h1.symm
  · cases h

theorem isAggV_of {v : V} (h : isAggV v = true) : ∃ cs, v = .agg cs := by
  cases v <;> simp [isAggV] at h; exact ⟨_, rfl⟩
theorem cellsV_one0 {v : V} (h : isAggV v = false) : cellsV v = [v] := by
  cases v <;> first | rfl | (simp [isAggV] at h)

theorem key_check {kt : TypeId} {g : Bool} {ks : List CK} (h : keyKinds P kt = some (g, ks)) {k : V} {k' : Value} (hv : VR ρ k k') (hk : keyOk g ks k = true) (em : Bool) (w : World) : (Instr.checkKey em 10000 kt k').run P w = .ok () w := by
  obtain ⟨hf, hc⟩ := keyKinds_spec h
  simp only [keyOk, Bool.and_eq_true, beq_iff_eq] at hk
  obtain ⟨⟨hg, hst⟩, hs⟩ := hk
  obtain ⟨b, hb⟩ := Option.isSome_iff_exists.1 hs
  rcases hc with ⟨rfl, hagg⟩ | ⟨rfl, c, d, rfl, hd, hcd⟩
  · obtain ⟨cs, rfl⟩ := isAggV_of hg
    obtain ⟨h1, _⟩ := hv.cells hst
    cases hv with
    | agg => exact ck_agg (D := 9999) (ckPart_all em 19) (by omega) hf hagg h1 hb w
  · rw [cellsV_one0 hg] at hb
    simp only [eqCells] at hb
    split at hb
    case h_2 => cases hb
    rename_i p q hp _
    cases c <;> cases k <;> simp only [eqCell] at hp <;> try (cases hp; done)
    all_goals (cases hv; subst hcd; show (Instr.checkKey em (9999 + 1) kt _).run P w = _; rw [Instr.checkKey]; simp [run_underlying hd])

/-- where a key stands -/
theorem find_rel {kt : TypeId} {g : Bool} {ks : List CK} (h : keyKinds P kt = some (g, ks)) {k : V} {k' : Value} (hv : VR ρ k k') (hk : keyOk g ks k = true) (w : World) {es : List (V × V)} {es' : List MapEntry} (he : EntR ρ es es') {r : Option (Nat × V)} (hr : mfind ks k es = some r) :
    match r with
    | none => (Instr.findKey kt k' es').run P w = .ok none w
    | some (i, v) => ∃ v' e, (Instr.findKey kt k' es').run P w = .ok (some (i, v')) w ∧ VR ρ v v' ∧ stor v = true ∧ es'[i]? = some e ∧ Instr.sameBits 10000 e.key k' = true := by
  obtain ⟨hf, hc⟩ := keyKinds_spec h
  simp only [keyOk, Bool.and_eq_true, beq_iff_eq] at hk
  obtain ⟨⟨hg, hst⟩, hs⟩ := hk
  rcases hc with ⟨rfl, hagg⟩ | ⟨rfl, c, d, rfl, hd, hcd⟩
  · -- structs, arrays
    obtain ⟨cs, rfl⟩ := isAggV_of hg
    obtain ⟨h1, _⟩ := hv.cells hst
    cases hv with
    | agg a1 a2 a3 =>
    rename_i C
    have hwide : (match P.underlying kt with | some (.array _ _) | some (.struct _) => true | _ => false) = true := by
      obtain ⟨fs, hu | ⟨n, e, hu⟩⟩ := hagg <;> simp [hu]
    rw [run_findKey_eq w hwide]
    have key : ∀ {es : List (V × V)} {es' : List MapEntry}, EntR ρ es es' → ∀ (r : Option (Nat × V)) (i : Nat), mfind ks (.agg cs) es = some r →
        match r with
        | none => (Instr.findAsking kt (.agg C) es' i).run P w = .ok none w
        | some (j, v) => ∃ v' e, (Instr.findAsking kt (.agg C) es' i).run P w = .ok (some (i + j, v')) w ∧ VR ρ v v' ∧ stor v = true ∧ es'[j]? = some e ∧ Instr.sameBits 10000 e.key (.agg C) = true := by
      intro es es' he
      induction he with
      | nil => intro r i hr; simp [mfind] at hr; subst hr; simp [Instr.findAsking]
      | @cons k2 v2 e2 es es' q1 q2 q3 q4 _ ih =>
        intro r i hr
        simp only [mfind] at hr
        split at hr
        · rename_i hq
          cases hr
          split at hq
          case isFalse => cases hq
          rename_i ha
          have ha : isAggV k2 = true := by simpa [isAggV] using ha
          obtain ⟨cs2, rfl⟩ := isAggV_of ha
          obtain ⟨g1, _⟩ := q1.cells q2
          generalize hke : e2.key = ke at q1 g1
          cases q1 with
          | agg b1 b2 b3 =>
            rename_i C2
            have heq : (Op.equal kt (.agg C) (.agg C2)).run P w = .ok true w := eq_agg (P := P) (ρ := ρ) (D := 9999) (eqPart_all 19) (by omega) hf hagg h1 g1 hq w
            refine ⟨e2.val, e2, ?_, q3, q4, rfl, ?_⟩
            · simp only [Instr.findAsking, hke, Sem.run_bind, heq, Result.andThen_ok, if_true, Sem.run_pure, Nat.add_zero]
            · rw [hke]
              obtain ⟨l1, l2⟩ := eqCells_bits (n := 9999) hq h1 g1
              show Instr.sameBits (9999 + 1) (.agg C2) (.agg C) = true
              simp only [Instr.sameBits, Bool.and_eq_true, beq_iff_eq]
              exact ⟨by simpa [Value.cells] using l1, l2⟩
        · rename_i hq
          split at hq
          case isFalse => cases hq
          rename_i ha
          have ha : isAggV k2 = true := by simpa [isAggV] using ha
          obtain ⟨cs2, rfl⟩ := isAggV_of ha
          obtain ⟨g1, _⟩ := q1.cells q2
          generalize hke : e2.key = ke at q1 g1
          cases q1 with
          | agg b1 b2 b3 =>
            rename_i C2
            have heq : (Op.equal kt (.agg C) (.agg C2)).run P w = .ok false w := eq_agg (P := P) (ρ := ρ) (D := 9999) (eqPart_all 19) (by omega) hf hagg h1 g1 hq w
            have step : (Instr.findAsking kt (.agg C) (e2 :: es') i).run P w = (Instr.findAsking kt (.agg C) es' (i + 1)).run P w := by
              simp only [Instr.findAsking, hke, Sem.run_bind, heq, Result.andThen_ok, Bool.false_eq_true, if_false]
            cases hm : mfind ks (V.agg cs) es with
            | none => rw [hm] at hr; cases hr
            | some r2 =>
              rw [hm] at hr
              have := ih r2 (i + 1) hm
              cases r2 with
              | none => simp only at hr; cases hr; simp only at this ⊢; rw [step]; exact this
              | some jv =>
                obtain ⟨j, v⟩ := jv
                simp only at hr; cases hr
                simp only at this ⊢
                obtain ⟨v', e, f1, f2, f3, f4, f5⟩ := this
                exact ⟨v', e, by rw [step, f1]; congr 3; omega, f2, f3, by simpa using f4, f5⟩
        · cases hr
    have := key he r 0 hr
    cases r with
    | none => exact this
    | some jv =>
      obtain ⟨j, v⟩ := jv
      obtain ⟨v', e, f1, f2⟩ := this
      exact ⟨v', e, by rw [f1, Nat.zero_add], f2⟩
  · -- one cell
    have hone := cellsV_one0 hg
    have key : ∀ {es : List (V × V)} {es' : List MapEntry}, EntR ρ es es' → ∀ (r : Option (Nat × V)) (i : Nat), mfind [c] k es = some r →
        match r with
        | none => Instr.findNow d k' es' i = some none
        | some (j, v) => ∃ v' e, Instr.findNow d k' es' i = some (some (i + j, v')) ∧ VR ρ v v' ∧ stor v = true ∧ es'[j]? = some e ∧ Instr.sameBits 10000 e.key k' = true := by
      intro es es' he
      induction he with
      | nil => intro r i hr; simp [mfind] at hr; subst hr; simp [Instr.findNow]
      | @cons k2 v2 e2 es es' q1 q2 q3 q4 _ ih =>
        intro r i hr
        simp only [mfind] at hr
        have cellsEq : ∀ b, (if (isAggV k == isAggV k2) = true then eqCells [c] (cellsV k) (cellsV k2) else none) = some b → eqCell c k k2 = some b := by
          intro b hq
          split at hq
          case isFalse => cases hq
          rename_i ha
          rw [hg] at ha
          have ha : isAggV k2 = false := by simpa using ha
          rw [hone, cellsV_one0 ha] at hq
          simp only [eqCells] at hq
          split at hq
          case h_2 => cases hq
          rename_i p q hp hq2
          cases hq2; cases hq
          simpa using hp
        split at hr
        · rename_i hq
          cases hr
          have hc1 := cellsEq _ hq
          have s1 := (eqCell_same hc1 hv q1).1 d hcd
          refine ⟨e2.val, e2, by simp [Instr.findNow, s1], q3, q4, rfl, ?_⟩
          exact (eqCell_same hc1 hv q1).2 rfl 10000
        · rename_i hq
          have hc1 := cellsEq _ hq
          have s1 := (eqCell_same hc1 hv q1).1 d hcd
          cases hm : mfind [c] k es with
          | none => rw [hm] at hr; cases hr
          | some r2 =>
            rw [hm] at hr
            have := ih r2 (i + 1) hm
            cases r2 with
            | none => simp only at hr; cases hr; simp only at this ⊢; simp [Instr.findNow, s1, this]
            | some jv =>
              obtain ⟨j, v⟩ := jv
              simp only at hr; cases hr
              simp only at this ⊢
              obtain ⟨v', e, f1, f2, f3, f4, f5⟩ := this
              refine ⟨v', e, ?_, f2, f3, by simpa using f4, f5⟩
              simp [Instr.findNow, s1, f1]; omega
        · cases hr
    have := key he r 0 hr
    cases r with
    | none => exact run_findKeyM hd this
    | some jv =>
      obtain ⟨j, v⟩ := jv
      obtain ⟨v', e, f1, f2⟩ := this
      exact ⟨v', e, by rw [Nat.zero_add] at f1; exact run_findKeyM hd f1, f2⟩

theorem zeroOf_rel {t : TypeId} {z : V} (h : zeroOf P t = some z) : ∃ zv, (zeroValue t).run P w = .ok zv w ∧ VR ρ z zv := by
  unfold zeroOf at h
  split at h
  case h_2 => cases h
  rename_i i hi
  split at h
  · rename_i cs hz
    simp only [Option.map_eq_some_iff] at h
    obtain ⟨vs, hvs, rfl⟩ := h
    exact ⟨_, by simp [zeroValue, typeInfo, hi, hz], vr_agg (toVs_rel hvs) (toVs_scal hvs)⟩
  · rename_i zv hn hz
    exact ⟨_, by simp [zeroValue, typeInfo, hi, hz], toV_rel h⟩
  · cases h

/-- LOOKUP -/
theorem mget_rel {t kt e : TypeId} {ok g : Bool} {ks : List CK} {z : V} (ht : P.underlying t = some (.map kt e)) (hk : keyKinds P kt = some (g, ks)) (hz : zeroOf P e = some z) {X K : V} {x k : Value} (hX : FV ρ lam X x) (hK : FV ρ lam K k)
    (hH : RelH ρ H w) {v : V} (hv : vmget g ks ok z H X K = some v) : ∃ y, (Instr.lookup t x k ok).run P w = .ok y w ∧ VR ρ v y := by
  cases X <;> simp only [vmget] at hv <;> try (cases hv; done)
  rename_i b
  split at hv
  case h_2 => cases hv
  rename_i es hb
  split at hv
  case isFalse => cases hv
  rename_i hko
  obtain ⟨r, o, c, hρ, rfl⟩ := hX.mp
  obtain ⟨es', clk, hw, hent⟩ := hH.mp.entM b r o c es hρ hb
  have hst : stor K = true := by simp only [keyOk, Bool.and_eq_true] at hko; exact hko.1.2
  have hKv := hK.stor hst
  have hck := fun em => key_check (P := P) hk hKv hko em w
  obtain ⟨zv, hzr, hzv⟩ := zeroOf_rel (P := P) (w := w) (ρ := ρ) hz
  split at hv
  · rename_i i u hf
    have := find_rel (P := P) hk hKv hko w hent.ent hf
    obtain ⟨v', e0, f1, f2, _⟩ := this
    refine ⟨if ok then .tuple #[v', .bool true] else v', ?_, ?_⟩
    · simp only [Instr.lookup, Sem.run_bind, run_underlying ht, Result.andThen_ok, run_getObjM hw, Sem.run_pure, hck, f1]
    · cases ok
      · simp only [Bool.false_eq_true, if_false] at hv ⊢; cases hv; exact f2
      · simp only [if_true] at hv ⊢; cases hv
        refine .tup rfl fun i hi => ?_
        match i, hi with
        | 0, _ => exact f2
        | 1, _ => exact .bool true
  · rename_i hf
    have f1 := find_rel (P := P) hk hKv hko w hent.ent hf
    simp only at f1
    refine ⟨if ok then .tuple #[zv, .bool false] else zv, ?_, ?_⟩
    · simp only [Instr.lookup, Sem.run_bind, run_underlying ht, Result.andThen_ok, run_getObjM hw, Sem.run_pure, hck, f1, hzr]
    · cases ok
      · simp only [Bool.false_eq_true, if_false] at hv ⊢; cases hv; exact hzv
      · simp only [if_true] at hv ⊢; cases hv
        refine .tup rfl fun i hi => ?_
        match i, hi with
        | 0, _ => exact hzv
        | 1, _ => exact .bool false
  · cases hv

/-- entries with one changed, with one more -/
theorem EntR.set {es : List (V × V)} {es' : List MapEntry} (h : EntR ρ es es') {k v : V} {k' v' : Value} (hk : VR ρ k k') (ks : stor k = true) (hv : VR ρ v v') (vs : stor v = true) : ∀ {i : Nat}, EntR ρ (es.set i (k, v)) (es'.modify i fun e => { e with key := k', val := v' }) := by
  induction h with
  | nil => intro i; simpa using EntR.nil
  | cons h1 h2 h3 h4 h5 ih =>
    intro i
    cases i with
    | zero => simpa using EntR.cons (e := { key := k', val := v', born := _ }) hk ks hv vs h5
    | succ i => simpa using EntR.cons h1 h2 h3 h4 ih
theorem EntR.push {es : List (V × V)} {es' : List MapEntry} (h : EntR ρ es es') {k v : V} {e : MapEntry} (hk : VR ρ k e.key) (ks : stor k = true) (hv : VR ρ v e.val) (vs : stor v = true) : EntR ρ (es ++ [(k, v)]) (es' ++ [e]) := by
  induction h with
  | nil => exact .cons hk ks hv vs .nil
  | cons h1 h2 h3 h4 h5 ih => exact .cons h1 h2 h3 h4 ih

theorem MEnt.modify {es es1 : List (V × V)} {ar : Array MapEntry} {clk : Nat} (h : MEnt ρ es ar clk) {f : MapEntry → MapEntry} (hf : ∀ e, (f e).born = e.born) {i : Nat} (he : EntR ρ es1 (ar.modify i f).toList) : MEnt ρ es1 (ar.modify i f) clk := by
  refine ⟨he, by rw [h.clk]; simp, fun j e hj => ?_⟩
  rw [Array.getElem?_modify] at hj
  cases hg : ar[j]? with
  | none => rw [hg] at hj; split at hj <;> cases hj
  | some e0 =>
    rw [hg] at hj
    have := h.born j e0 hg
    split at hj <;> (cases hj)
    · rw [hf]; exact this
    · exact this
theorem MEnt.push {es : List (V × V)} {ar : Array MapEntry} {clk : Nat} (h : MEnt ρ es ar clk) {k v : V} {k' v' : Value} (hk : VR ρ k k') (ks : stor k = true) (hv : VR ρ v v') (vs : stor v = true) : MEnt ρ (es ++ [(k, v)]) (ar.push { key := k', val := v', born := clk }) (clk + 1) := by
  refine ⟨by rw [Array.toList_push]; exact h.ent.push hk ks hv vs, by rw [h.clk]; simp, fun j e hj => ?_⟩
  rw [Array.getElem?_push] at hj
  split at hj
  · rename_i e0; cases hj; rw [e0]; exact h.clk
  · exact h.born j e hj
theorem EntR.len {es : List (V × V)} {es' : List MapEntry} (h : EntR ρ es es') : es.length = es'.length := by
  induction h with
  | nil => rfl
  | cons _ _ _ _ _ ih => simp [ih]
theorem EntR.at {es : List (V × V)} {es' : List MapEntry} (h : EntR ρ es es') : ∀ {i : Nat} {p : V × V}, es[i]? = some p → ∃ e, es'[i]? = some e ∧ VR ρ p.1 e.key ∧ stor p.1 = true ∧ VR ρ p.2 e.val ∧ stor p.2 = true := by
  induction h with
  | nil => intro i p hp; simp at hp
  | cons h1 h2 h3 h4 h5 ih =>
    intro i p hp
    cases i with
    | zero => simp at hp; subst hp; exact ⟨_, rfl, h1, h2, h3, h4⟩
    | succ i => simpa using ih (by simpa using hp)
theorem EntR.setK {es : List (V × V)} {es' : List MapEntry} (h : EntR ρ es es') {k v : V} {k' : Value} (hk : VR ρ k k') (ks : stor k = true) : ∀ {i : Nat} {k0 : V}, es[i]? = some (k0, v) → EntR ρ (es.set i (k, v)) (es'.modify i fun e => { e with key := k' }) := by
  induction h with
  | nil => intro i k0 hp; simp at hp
  | cons h1 h2 h3 h4 h5 ih =>
    intro i k0 hp
    cases i with
    | zero => simp at hp; obtain ⟨rfl, rfl⟩ := hp; simpa using EntR.cons (e := { key := k', val := _, born := _ }) hk ks h3 h4 h5
    | succ i => simpa using EntR.cons h1 h2 h3 h4 (ih (by simpa using hp))
theorem EntR.setV {es : List (V × V)} {es' : List MapEntry} (h : EntR ρ es es') {v : V} {v' : Value} (hv : VR ρ v v') (vs : stor v = true) : ∀ {i : Nat} {k0 v0 : V}, es[i]? = some (k0, v0) → EntR ρ (es.set i (k0, v)) (es'.modify i fun e => { e with val := v' }) := by
  induction h with
  | nil => intro i k0 v0 hp; simp at hp
  | cons h1 h2 h3 h4 h5 ih =>
    intro i k0 v0 hp
    cases i with
    | zero => simp at hp; obtain ⟨rfl, rfl⟩ := hp; simpa using EntR.cons (e := { key := _, val := v', born := _ }) h1 h2 hv vs h5
    | succ i => simpa using EntR.cons h1 h2 h3 h4 (ih (by simpa using hp))
theorem mfind_at {ks : List CK} {k : V} : ∀ {es : List (V × V)} {i : Nat} {v : V}, mfind ks k es = some (some (i, v)) → ∃ k0, es[i]? = some (k0, v)
  | [], i, v, h => by simp [mfind] at h
  | (k', u) :: es, i, v, h => by
    simp only [mfind] at h
    split at h
    · cases h; exact ⟨_, rfl⟩
    · cases hm : mfind ks k es with
      | none => rw [hm] at h; cases h
      | some r =>
        rw [hm] at h
        cases r with
        | none => cases h
        | some jv =>
          obtain ⟨j, w⟩ := jv
          simp only at h; cases h
          obtain ⟨k0, h0⟩ := mfind_at hm
          exact ⟨k0, by simpa using h0⟩
    · cases h
/-- a map that is written -/
theorem swrite_rel (hH : RelH ρ H w) (hL : RelL A ρ lam L w) {b r o c : Nat} {x0 x1 : Blk} {ob0 ob1 : Obj} (hlim : lim ≤ b) (hx0 : spB x0 = true) (hx1 : spB x1 = true) (ho0 : ownB x0 = true) (hb : H[b]? = some x0) (hρ : ρ b = some (r, o, c)) (hw : w.heap[r]? = some ob0)
    (hnc : ∀ C el fz, ob0 ≠ .cells C el fz) (he : SpR ρ x1 ob1) : Grow lim tg ρ lam L H w ρ lam L (H.set b x1) { w with heap := w.heap.setIfInBounds r ob1 } ∧ RelH ρ (H.set b x1) { w with heap := w.heap.setIfInBounds r ob1 } ∧ RelL A ρ lam L { w with heap := w.heap.setIfInBounds r ob1 } := by
  obtain ⟨k1, k2⟩ := heap_setM (o' := ob1) hw
  have hlt : b < H.length := (List.getElem?_eq_some_iff.1 hb).1
  have hgetR : ∀ (b' : Nat) (cs : List V) (own : Bool), (H.set b x1)[b']? = some (Blk.row cs own) → b' ≠ b ∧ H[b']? = some (Blk.row cs own) := by
    intro b' cs own hb'
    by_cases e : b = b'
    · subst e; rw [List.getElem?_set_self hlt] at hb'; rw [Option.some.inj hb'] at hx1; cases hx1
    · rw [List.getElem?_set_ne e] at hb'; exact ⟨fun e' => e e'.symm, hb'⟩
  have hgetM : ∀ (b' : Nat) (es' : Blk), (H.set b x1)[b']? = some es' → (b' = b ∧ es' = x1) ∨ (b' ≠ b ∧ H[b']? = some es') := by
    intro b' es' hb'
    by_cases e : b = b'
    · subst e; rw [List.getElem?_set_self hlt] at hb'; exact Or.inl ⟨rfl, (Option.some.inj hb').symm⟩
    · rw [List.getElem?_set_ne e] at hb'; exact Or.inr ⟨fun e' => e e'.symm, hb'⟩
  refine ⟨⟨rfl, rfl, rfl, by simp, by simp, Nat.le_refl _, fun _ _ => rfl, fun _ _ => rfl, fun b _ _ _ h1 h2 => absurd h2 (by simp; omega), fun i _ h1 h2 => absurd h2 (by omega), fun r' hr' hno _ => ?_, ?_⟩, ⟨fun b' r' o' c' hb' => ?_, fun b' r' o' c' cs own hb' hr' => ?_, fun b1 b2 r' o1 c1 o2 c2 cs1 cs2 own2 h1 h2 g1 g2 => ?_, ⟨fun b' r' o' c' es' hx hb' hr' => ?_, fun b1 b2 r' o1 c1 o2 c2 e1 e2 hx1 hx2 h1 h2 g1 g2 => ?_⟩⟩, ⟨fun i r' hi => ?_, hL.inj, hL.disj, fun i r' cs ha hi hc => ?_⟩⟩
  · refine k2 r' fun e => hno ?_
    subst e
    exact ⟨b, o, c, hlim, ⟨_, hb, ho0⟩, hρ⟩
  · rintro b' hlt' ⟨x, hx, hox⟩
    by_cases e : b = b'
    · subst e; exact ⟨_, hb, ho0⟩
    · rw [List.getElem?_set_ne e] at hx; exact ⟨x, hx, hox⟩
  · simpa using hH.dom b' r' o' c' hb'
  · obtain ⟨hne, hr'⟩ := hgetR _ _ _ hr'
    obtain ⟨C, el, fz, g1, rest⟩ := hH.row b' r' o' c' cs own hb' hr'
    exact ⟨C, el, fz, by rw [k2 r' (fun e => by subst e; rw [hw] at g1; exact hnc _ _ _ (Option.some.inj g1))]; exact g1, rest⟩
  · exact hH.inj b1 b2 r' o1 c1 o2 c2 cs1 cs2 own2 h1 h2 (hgetR _ _ _ g1).2 (hgetR _ _ _ g2).2
  · rcases hgetM _ _ hr' with ⟨rfl, rfl⟩ | ⟨hne, hr'⟩
    · rw [hρ] at hb'; cases hb'
      exact ⟨_, k1, he⟩
    · obtain ⟨ob, g1, g2⟩ := hH.mp.ent b' r' o' c' es' hx hb' hr'
      exact ⟨ob, by rw [k2 r' (fun e => by subst e; exact hne (hH.mp.inj b' b r' o' c' o c es' _ hx hx0 hb' hρ hr' hb))]; exact g1, g2⟩
  · have m1 : ∃ x, spB x = true ∧ H[b1]? = some x := by
      rcases hgetM _ _ g1 with ⟨rfl, _⟩ | ⟨_, h⟩
      · exact ⟨_, hx0, hb⟩
      · exact ⟨_, hx1, h⟩
    have m2 : ∃ x, spB x = true ∧ H[b2]? = some x := by
      rcases hgetM _ _ g2 with ⟨rfl, _⟩ | ⟨_, h⟩
      · exact ⟨_, hx0, hb⟩
      · exact ⟨_, hx2, h⟩
    obtain ⟨x1, y1, m1⟩ := m1
    obtain ⟨x2, y2, m2⟩ := m2
    exact hH.mp.inj b1 b2 r' o1 c1 o2 c2 x1 x2 y1 y2 h1 h2 m1 m2
  · simpa using hL.dom i r' hi
  · have hr := hL.row i r' cs ha hi hc
    refine hr.keep (k2 r' fun e => ?_)
    subst e
    exact hL.disj i r' b o c hi hρ
theorem mwrite_rel (hH : RelH ρ H w) (hL : RelL A ρ lam L w) {b r o c : Nat} {es es1 : List (V × V)} {ar ar1 : Array MapEntry} {clk clk1 : Nat} (hlim : lim ≤ b) (hb : H[b]? = some (.map es)) (hρ : ρ b = some (r, o, c)) (hw : w.heap[r]? = some (.map ar clk))
    (he : MEnt ρ es1 ar1 clk1) : Grow lim tg ρ lam L H w ρ lam L (H.set b (.map es1)) { w with heap := w.heap.setIfInBounds r (.map ar1 clk1) } ∧ RelH ρ (H.set b (.map es1)) { w with heap := w.heap.setIfInBounds r (.map ar1 clk1) } ∧ RelL A ρ lam L { w with heap := w.heap.setIfInBounds r (.map ar1 clk1) } :=
  swrite_rel hH hL hlim rfl rfl rfl hb hρ hw (fun _ _ _ e => by cases e) he

/-- UPDATE -/
theorem sim_mput {t kt e : TypeId} {g : Bool} {ks : List CK} (ht : P.underlying t = some (.map kt e)) (hk : keyKinds P kt = some (g, ks)) {X K U : V} {x k u : Value} (hX : FV ρ lam X x) (hK : FV ρ lam K k) (hU : FV ρ lam U u)
    (hs : s.run P w = ((Instr.mapUpdate t x k u).run P w).andThen fun _ w => .ok .skip w) (hH : RelH ρ H w) (hL : RelL A ρ lam L w) (hv : vmput lim g ks H X K U = some H') : OpSim P lim tg A ρ lam L H w s dv L H' := by
  cases X <;> simp only [vmput] at hv <;> try (cases hv; done)
  rename_i b
  split at hv
  case isFalse => cases hv
  rename_i hlim
  split at hv
  case h_2 => cases hv
  rename_i es hb
  split at hv
  case isFalse => cases hv
  rename_i hko
  simp only [Bool.and_eq_true] at hko
  obtain ⟨hko, hsu⟩ := hko
  obtain ⟨r, o, c, hρ, rfl⟩ := hX.mp
  obtain ⟨es', clk, hw, hent⟩ := hH.mp.entM b r o c es hρ hb
  have hst : stor K = true := by simp only [keyOk, Bool.and_eq_true] at hko; exact hko.1.2
  have hKv := hK.stor hst
  have hUv := hU.stor hsu
  have hck := fun em => key_check (P := P) hk hKv hko em w
  split at hv
  · rename_i i u0 hf
    cases hv
    have := find_rel (P := P) hk hKv hko w hent.ent hf
    obtain ⟨v', e0, f1, f2, f3, f4, f5⟩ := this
    have hei : es'[i]? = some e0 := by simpa using f4
    obtain ⟨g1, g2, g3⟩ := mwrite_rel (tg := tg) (clk1 := clk) hH hL hlim hb hρ hw (es1 := es.set i (K, U)) (ar1 := es'.modify i fun e => { e with key := k, val := u }) (by
      refine MEnt.modify (f := fun e => { e with key := k, val := u }) hent (fun e => rfl) ?_
      rw [Array.toList_modify]; exact hent.ent.set hKv hst hUv hsu)
    refine ⟨ux, ρ, lam, _, Or.inr ⟨?_, rfl⟩, .undef, g1, g2, g3.wide⟩
    rw [hs]
    simp only [Instr.mapUpdate, Sem.run_bind, run_underlying ht, Result.andThen_ok, run_getObjM hw, Sem.run_pure, hck, f1, Instr.keyThatStays, hei, Option.map_some, Option.getD_some, f5, if_true, run_setObjM _ hw]
  · rename_i hf
    cases hv
    have f1 := find_rel (P := P) hk hKv hko w hent.ent hf
    simp only at f1
    obtain ⟨g1, g2, g3⟩ := mwrite_rel (tg := tg) (clk1 := clk + 1) hH hL hlim hb hρ hw (es1 := es ++ [(K, U)]) (ar1 := es'.push { key := k, val := u, born := clk }) (hent.push hKv hst hUv hsu)
    refine ⟨ux, ρ, lam, _, Or.inr ⟨?_, rfl⟩, .undef, g1, g2, g3.wide⟩
    rw [hs]
    simp only [Instr.mapUpdate, Sem.run_bind, run_underlying ht, Result.andThen_ok, run_getObjM hw, Sem.run_pure, hck, f1, run_setObjM _ hw]
  · cases hv

/-- THE ENTRY OF A KEY -/
theorem sim_ment {t kt e : TypeId} {g : Bool} {ks : List CK} {z : V} (ht : P.underlying t = some (.map kt e)) (hk : keyKinds P kt = some (g, ks)) (hz : zeroOf P e = some z) {X K : V} {x k : Value} (hX : FV ρ lam X x) (hK : FV ρ lam K k)
    (hs : s.run P w = ((Instr.mapEntry t x k).run P w).andThen fun v w => .ok (.value v) w) (hH : RelH ρ H w) (hL : RelL A ρ lam L w) {v : V} (hv : vment lim g ks z H X K = some (v, H')) : OpSim P lim tg A ρ lam L H w s v L H' := by
  cases X <;> simp only [vment] at hv <;> try (cases hv; done)
  rename_i b
  split at hv
  case isFalse => cases hv
  rename_i hlim
  split at hv
  case h_2 => cases hv
  rename_i es hb
  split at hv
  case isFalse => cases hv
  rename_i hko
  simp only [Bool.and_eq_true] at hko
  obtain ⟨hko, hsz⟩ := hko
  obtain ⟨r, o, c, hρ, rfl⟩ := hX.mp
  obtain ⟨es', clk, hw, hent⟩ := hH.mp.entM b r o c es hρ hb
  have hst : stor K = true := by simp only [keyOk, Bool.and_eq_true] at hko; exact hko.1.2
  have hKv := hK.stor hst
  have hck := fun em => key_check (P := P) hk hKv hko em w
  obtain ⟨zv, hzr, hzv⟩ := zeroOf_rel (P := P) (w := w) (ρ := ρ) hz
  split at hv
  · rename_i i u0 hf
    cases hv
    have := find_rel (P := P) hk hKv hko w hent.ent hf
    obtain ⟨v', e0, f1, f2, f3, f4, f5⟩ := this
    have hei : es'[i]? = some e0 := by simpa using f4
    obtain ⟨k0, hat⟩ := mfind_at hf
    obtain ⟨g1, g2, g3⟩ := mwrite_rel (tg := tg) (clk1 := clk) hH hL hlim hb hρ hw (es1 := es.set i (K, u0)) (ar1 := es'.modify i fun e => { e with key := k }) (by
      refine MEnt.modify (f := fun e => { e with key := k }) hent (fun e => rfl) ?_
      rw [Array.toList_modify]; exact hent.ent.setK hKv hst hat)
    refine ⟨.tuple #[v', goInt i], ρ, lam, _, Or.inl ?_, .vr (.tup rfl fun j hj => ?_), g1, g2, g3.wide⟩
    · rw [hs]
      simp only [Instr.mapEntry, Sem.run_bind, run_underlying ht, Result.andThen_ok, run_getObjM hw, Sem.run_pure, hck, f1, Instr.keyThatStays, hei, Option.map_some, Option.getD_some, f5, if_true, run_setObjM _ hw, hent.born i e0 hei]
    · match j, hj with
      | 0, _ => exact f2
      | 1, _ => exact .int _ _
  · rename_i hf
    cases hv
    have f1 := find_rel (P := P) hk hKv hko w hent.ent hf
    simp only at f1
    have hlen := hent.ent.len
    have hclk := hent.clk
    obtain ⟨g1, g2, g3⟩ := mwrite_rel (tg := tg) (clk1 := clk + 1) hH hL hlim hb hρ hw (es1 := es ++ [(K, z)]) (ar1 := es'.push { key := k, val := zv, born := clk }) (hent.push hKv hst hzv hsz)
    have hce : clk = es.length := by rw [hclk, hlen]; simp
    refine ⟨.tuple #[zv, goInt clk], ρ, lam, _, Or.inl ?_, .vr (.tup rfl fun j hj => ?_), g1, g2, g3.wide⟩
    · rw [hs]
      simp only [Instr.mapEntry, Sem.run_bind, run_underlying ht, Result.andThen_ok, run_getObjM hw, Sem.run_pure, hck, f1, hzr, run_setObjM _ hw]
    · match j, hj with
      | 0, _ => exact hzv
      | 1, _ => rw [hce]; exact .int _ _
  · cases hv
/-- AN ENTRY LEADS ELSEWHERE -/
theorem sim_mest {t : TypeId} {X N U : V} {x n u : Value} (hX : FV ρ lam X x) (hN : FV ρ lam N n) (hU : FV ρ lam U u)
    (hs : s.run P w = ((Instr.entryStore t x n u).run P w).andThen fun _ w => .ok .skip w) (hH : RelH ρ H w) (hL : RelL A ρ lam L w) (hv : vmest lim H X N U = some H') : OpSim P lim tg A ρ lam L H w s dv L H' := by
  unfold vmest at hv
  split at hv
  case h_2 => cases hv
  rename_i b kk m
  split at hv
  case isFalse => cases hv
  rename_i hlim
  split at hv
  case h_2 => cases hv
  rename_i es hb
  split at hv
  case isFalse => cases hv
  rename_i hsu
  split at hv
  case h_2 => cases hv
  rename_i k0 v0 hat
  cases hv
  obtain ⟨r, o, c, hρ, rfl⟩ := hX.mp
  have := hN.int; subst this
  obtain ⟨es', clk, hw, hent⟩ := hH.mp.entM b r o c es hρ hb
  have hUv := hU.stor hsu
  obtain ⟨j, rfl⟩ : ∃ j : Nat, m = j := ⟨m.toNat, by omega⟩
  simp only [Int.toNat_natCast] at hat ⊢
  obtain ⟨e0, h0, _⟩ := hent.ent.at hat
  have hei : es'[j]? = some e0 := by simpa using h0
  have hfi : es'.findIdx? (fun e => (e.born : Int) == (j : Int)) = some j := by
    have hlt : j < es'.size := (Array.getElem?_eq_some_iff.1 hei).1
    rw [Array.findIdx?_eq_some_iff_getElem]
    refine ⟨hlt, ?_, fun i hi => ?_⟩
    · have := hent.born j es'[j] (by simp [hlt])
      simp [this]
    · have := hent.born i es'[i] (by simp)
      simp [this]; omega
  obtain ⟨g1, g2, g3⟩ := mwrite_rel (tg := tg) (clk1 := clk) hH hL hlim.1 hb hρ hw (es1 := es.set j (k0, U)) (ar1 := es'.modify j fun e => { e with val := u }) (by
    refine MEnt.modify (f := fun e => { e with val := u }) hent (fun e => rfl) ?_
    rw [Array.toList_modify]; exact hent.ent.setV hUv hsu hat)
  refine ⟨ux, ρ, lam, _, Or.inr ⟨?_, rfl⟩, .undef, g1, g2, g3.wide⟩
  rw [hs]
  simp only [Instr.entryStore, Sem.run_bind, Sem.run_pure, run_getObjM hw, Result.andThen_ok, asInt, asIntOf, hfi, run_setObjM _ hw]

/-- A NEW BLOCK that is no row -/
theorem sim_spn {X : Blk} {ob : Obj} {u : V} {u' : Value} (hX : spB X = true) (hob : ∀ ρ', SpR ρ' X ob) (hu : ∀ ρ' : Loc, ρ' H.length = some (w.heap.size, 0, 0) → VR ρ' u u') (hH : RelH ρ H w) (hL : RelL A ρ lam L w) (hfree : FreeR ρ H.length (H.length + 1)) (hs : s.run P w = .ok (.value u') (w.alloc ob)) : OpSim P lim tg A ρ lam L H w s u L (H ++ [X]) := by
  have hf : ρ H.length = none := hfree _ (Nat.le_refl _) (Nat.lt_succ_self _)
  have hle := Loc.add_le (x := (w.heap.size, 0, 0)) hf
  have hk : ∀ r, r < w.heap.size → (w.alloc ob).heap[r]? = w.heap[r]? := fun r hr => heap_alloc_old w _ r hr
  have hn : (w.alloc ob).heap[w.heap.size]? = some ob := heap_alloc_new w _
  have hsz : w.heap.size < (w.alloc ob).heap.size := by simp
  have hback : ∀ b x, (ρ.add H.length (w.heap.size, 0, 0)) b = some x → (b = H.length ∧ x = (w.heap.size, 0, 0)) ∨ (b ≠ H.length ∧ ρ b = some x) := by
    intro b x hb
    unfold Loc.add at hb
    split at hb
    · rename_i e; exact Or.inl ⟨e, (Option.some.inj hb).symm⟩
    · rename_i e; exact Or.inr ⟨e, hb⟩
  have hget : ∀ (b : Nat) (x : Blk), (H ++ [X])[b]? = some x → (b = H.length ∧ x = X) ∨ (b ≠ H.length ∧ H[b]? = some x) := by
    intro b x hb
    by_cases hlt : b < H.length
    · rw [List.getElem?_append_left hlt] at hb; exact Or.inr ⟨by omega, hb⟩
    · have := (List.getElem?_eq_some_iff.1 hb).1
      have e : b = H.length := by simp at this; omega
      subst e
      rw [List.getElem?_concat_length] at hb
      exact Or.inl ⟨rfl, (Option.some.inj hb).symm⟩
  refine ⟨_, ρ.add H.length (w.heap.size, 0, 0), lam, _, Or.inl hs, .vr (hu _ (by simp [Loc.add])), ⟨rfl, rfl, rfl, Nat.le_of_lt hsz, by simp, Nat.le_refl _, ?_, fun _ _ => rfl, ?_, fun i r h1 h2 => absurd h2 (by omega), fun r hr _ _ => hk r hr, ?_⟩,
    ⟨fun b r o c hb => ?_, fun b r o c cs own hb hr => ?_, fun b1 b2 r o1 c1 o2 c2 cs1 cs2 own2 h1 h2 hr1 hr2 => ?_, ⟨fun b r o c es hx hb hr => ?_, fun b1 b2 r o1 c1 o2 c2 e1 e2 hx1 hx2 h1 h2 hr1 hr2 => ?_⟩⟩, (hL.pushH hf hsz hk).wide⟩
  · intro b hb
    unfold Loc.add
    rw [if_neg]
    simp at hb; omega
  · intro b r o c' h1 h2 hb
    have : b = H.length := by simp at h2; omega
    subst this
    unfold Loc.add at hb
    simp at hb
    left; omega
  · rintro b hb ⟨x, hx, hox⟩
    rw [List.getElem?_append_left hb] at hx
    exact ⟨x, hx, hox⟩
  · rcases hback _ _ hb with ⟨_, e⟩ | ⟨_, e⟩
    · cases e; exact hsz
    · exact Nat.lt_trans (hH.dom b r o c e) hsz
  · rcases hget _ _ hr with ⟨_, e⟩ | ⟨hne, e⟩
    · rw [← e] at hX; cases hX
    · rcases hback _ _ hb with ⟨e', _⟩ | ⟨_, e'⟩
      · exact absurd e' hne
      · obtain ⟨C, el, fz, g1, g2, g3, g4, g5⟩ := hH.row b r o c cs own e' e
        exact ⟨C, el, fz, by rw [hk r (hH.dom b r o c e')]; exact g1, g2, g3, g4, g5.mono hle⟩
  · rcases hget _ _ hr1 with ⟨_, e⟩ | ⟨n1, q1⟩
    · rw [← e] at hX; cases hX
    rcases hget _ _ hr2 with ⟨_, e⟩ | ⟨n2, q2⟩
    · rw [← e] at hX; cases hX
    rcases hback _ _ h1 with ⟨e1, _⟩ | ⟨_, p1⟩
    · exact absurd e1 n1
    rcases hback _ _ h2 with ⟨e2, _⟩ | ⟨_, p2⟩
    · exact absurd e2 n2
    exact hH.inj b1 b2 r o1 c1 o2 c2 cs1 cs2 own2 p1 p2 q1 q2
  · rcases hback _ _ hb with ⟨e1, x1⟩ | ⟨n1, p1⟩
    · cases x1
      rcases hget _ _ hr with ⟨_, e⟩ | ⟨n2, _⟩
      · subst e; exact ⟨_, hn, hob _⟩
      · exact absurd e1 n2
    · rcases hget _ _ hr with ⟨e, _⟩ | ⟨_, q1⟩
      · exact absurd e n1
      · obtain ⟨ob, g1, g2⟩ := hH.mp.ent b r o c es hx p1 q1
        exact ⟨ob, by rw [hk r (hH.dom b r o c p1)]; exact g1, g2.mono hle⟩
  · rcases hback _ _ h1 with ⟨e1, x1⟩ | ⟨n1, p1⟩ <;> rcases hback _ _ h2 with ⟨e2, x2⟩ | ⟨n2, p2⟩
    · omega
    · cases x1; have := hH.dom b2 _ _ _ p2; omega
    · cases x2; have := hH.dom b1 _ _ _ p1; omega
    · rcases hget _ _ hr1 with ⟨e, _⟩ | ⟨_, q1⟩
      · exact absurd e n1
      rcases hget _ _ hr2 with ⟨e, _⟩ | ⟨_, q2⟩
      · exact absurd e n2
      exact hH.mp.inj b1 b2 r o1 c1 o2 c2 e1 e2 hx1 hx2 p1 p2 q1 q2
/-- A NEW MAP -/
theorem sim_mkm (hH : RelH ρ H w) (hL : RelL A ρ lam L w) (hfree : FreeR ρ H.length (H.length + 1)) (hs : s.run P w = .ok (.value (.map (some w.heap.size))) (w.alloc (.map #[] 0))) : OpSim P lim tg A ρ lam L H w s (.mp H.length) L (H ++ [.map []]) :=
  sim_spn (ob := .map #[] 0) rfl (fun _ => (⟨.nil, rfl, by simp⟩ : MEnt _ [] #[] 0)) (fun _ h => .mp h) hH hL hfree hs

/-! the letters of a text -/
theorem run_getObjI {r : Nat} {tx : ByteArray} {p : Nat} (hb : w.heap[r]? = some (.stringIter tx p)) : (getObj r).run P w = .ok (.stringIter tx p) w := by
  simp [getObj, Sem.run, hb]
theorem run_setObjI {r : Nat} {tx : ByteArray} {p : Nat} (o : Obj) (hb : w.heap[r]? = some (.stringIter tx p)) : (setObj r o).run P w = .ok () { w with heap := w.heap.setIfInBounds r o } := by
  simp [setObj, Sem.run, hb]
theorem sim_rgS {t : TypeId} {X : V} {x : Value} (ht : P.underlying t = some .string) (hX : FV ρ lam X x) (hs : s.run P w = ((Instr.range t x).run P w).andThen fun v w => .ok (.value v) w) (hH : RelH ρ H w) (hL : RelL A ρ lam L w) {v : V}
    (hv : vrange H X = some (v, H')) (hfree : FreeR ρ H.length H'.length) : OpSim P lim tg A ρ lam L H w s v L H' := by
  cases X <;> simp only [vrange] at hv <;> try (cases hv; done)
  rename_i tx
  cases hv
  have := hX.str; subst this
  refine sim_spn (ob := .stringIter tx 0) rfl (fun _ => ⟨rfl, rfl⟩) (fun _ h => .it h) hH hL (by simpa using hfree) ?_
  rw [hs]
  simp [Instr.range, run_underlying ht, newObj, Sem.run]
theorem sim_nxS {t : TypeId} {X : V} {x : Value} (hX : FV ρ lam X x) (hs : s.run P w = ((Instr.next x true t).run P w).andThen fun v w => .ok (.value v) w) (hH : RelH ρ H w) (hL : RelL A ρ lam L w) {v : V}
    (hv : vnext lim H X = some (v, H')) : OpSim P lim tg A ρ lam L H w s v L H' := by
  cases X <;> simp only [vnext] at hv <;> try (cases hv; done)
  rename_i b
  split at hv
  case isFalse => cases hv
  rename_i hlim
  split at hv
  case h_2 => cases hv
  rename_i tx p hb
  obtain ⟨r, o, c, hρ, rfl⟩ := hX.it
  have hw := hH.mp.entI b r o c tx p hρ hb
  split at hv
  · rename_i hp
    cases hv
    obtain ⟨g1, g2, g3⟩ := swrite_rel (tg := tg) (x1 := .sit tx (p + (Utf8.decode tx p).2)) (ob1 := .stringIter tx (p + (Utf8.decode tx p).2)) hH hL hlim rfl rfl rfl hb hρ hw (fun _ _ _ e => by cases e) ⟨rfl, rfl⟩
    refine ⟨.tuple #[.bool true, goInt p, .int .i32 (Utf8.decode tx p).1], ρ, lam, _, Or.inl ?_, .vr (.tup rfl fun j hj => ?_), g1, g2, g3.wide⟩
    · rw [hs]
      simp only [Instr.next, Sem.run_bind, Result.andThen_ok, run_getObjI hw, hp, if_true, run_setObjI _ hw, Sem.run_pure]
    · match j, hj with
      | 0, _ => exact .bool _
      | 1, _ => exact .int _ _
      | 2, _ => exact .int _ _
  · rename_i hp
    cases hv
    refine OpSim.pure (x := .tuple #[.bool false]) ?_ (.vr (.tup rfl fun j hj => ?_)) hH hL
    · rw [hs]
      simp only [Instr.next, Sem.run_bind, Result.andThen_ok, run_getObjI hw, hp, if_false, Sem.run_pure]
    · match j, hj with
      | 0, _ => exact .bool _

/-! texts out of rows -/
theorem byteOf_rel {v : V} {b : UInt8} {x : Value} (h : byteOf v = some b) (hv : VR ρ v x) : ∃ n, x = .int .u8 n ∧ b = UInt8.ofNat n.toNat := by
  cases v <;> simp only [byteOf] at h <;> try (cases h; done)
  rename_i k n
  cases k <;> simp only at h <;> try (cases h; done)
  cases h; cases hv
  exact ⟨_, rfl, rfl⟩
theorem bytes_fold : ∀ {cs : List V} {bs : List UInt8} {ys : List Value}, bytesOf cs = some bs → VRs ρ cs ys → ∃ ns : List Int, ys = ns.map (.int .u8) ∧ bs = ns.map fun n => UInt8.ofNat n.toNat
  | [], bs, ys, h, hv => by
    cases h
    exact ⟨[], List.eq_nil_of_length_eq_zero (by simpa using hv.1.symm), rfl⟩
  | c :: cs, bs, [], h, hv => by have := hv.1; simp at this
  | c :: cs, bs, y :: ys, h, hv => by
    simp only [bytesOf] at h
    split at h
    case h_2 => cases h
    rename_i b bs' h1 h2
    cases h
    obtain ⟨n, rfl, rfl⟩ := byteOf_rel h1 (hv.2 0 (by simp))
    obtain ⟨ns, rfl, rfl⟩ := bytes_fold h2 (⟨by simpa using hv.1, fun i hi => by simpa using hv.2 (i + 1) (by simpa using hi)⟩ : VRs ρ cs ys)
    exact ⟨n :: ns, rfl, rfl⟩
theorem load_cells {x : V} {cs : List V} {sz : Nat} {x' : Value} (h : vcells sz H x = some cs) (hv : FV ρ lam x x') (hH : RelH ρ H w) : ∃ ad m cap ys, x' = .slice ad m cap ∧ (Builtin.firstCells sz m x').run P w = .ok ys.toArray w ∧ VRs ρ cs ys := by
  have hk : ∃ n : Nat, vlenS x = some (.int .i64 (n : Int)) := by
    cases x <;> simp only [vcells] at h <;> first | (cases h; done) | exact ⟨_, rfl⟩ | exact ⟨0, rfl⟩
  obtain ⟨n, hn⟩ := hk
  obtain ⟨ys, hfc, hys, hsc, hysl⟩ := cells_rel (P := P) h hv hH hn
  obtain ⟨ad, m, cap2, rfl, hkm, hkk, hadn⟩ := lenS_rel hn hv
  have e : n = m := by omega
  subst e
  have h1 := hfc n (Nat.le_refl _)
  rw [List.take_of_length_le (by omega)] at h1
  exact ⟨ad, n, cap2, ys, rfl, h1, hys⟩
theorem sim_strB {e : TypeId} {src dst : TypeId} (h1 : P.underlying src = some (.slice e)) (h2 : P.underlying dst = some .string) (h8 : P.underlying e = some (.int .u8)) {X : V} {x : Value} (hX : FV ρ lam X x) (hH : RelH ρ H w) {v : V} (hv : vstrB H X = some v) :
    ∃ y, (convert src dst x).run P w = .ok y w ∧ VR ρ v y := by
  unfold vstrB at hv
  split at hv
  case h_2 => cases hv
  rename_i cs hcs
  split at hv
  case h_2 => cases hv
  rename_i bs hbs
  cases hv
  obtain ⟨ad, m, cap, ys, rfl, hrun, hys⟩ := load_cells (P := P) hcs hX hH
  obtain ⟨ns, rfl, rfl⟩ := bytes_fold hbs hys
  refine ⟨.string ⟨(ns.map fun n => UInt8.ofNat n.toNat).toArray⟩, ?_, .str _⟩
  have key : ∀ (ns : List Int) (acc : ByteArray), (forIn (ns.map (Value.int .u8)) acc fun c (s : ByteArray) => (match c with
      | .int .u8 n => pure (ForInStep.yield (s.push (UInt8.ofNat n.toNat)))
      | _ => stuck "bytesToString: byte expected" : Sem (ForInStep ByteArray))).run P w = .ok ⟨acc.data ++ (ns.map fun n => UInt8.ofNat n.toNat).toArray⟩ w := by
    intro ns
    induction ns with
    | nil => intro acc; simp
    | cons n ns ih =>
      intro acc
      simp only [List.map_cons, List.forIn_cons, Sem.run_bind, Sem.run_pure, Result.andThen_ok, ih]
      congr 2
      simp [ByteArray.push]
  cases ad with
  | none =>
    simp only [Builtin.firstCells, Sem.run_pure, Result.ok.injEq, and_true] at hrun
    have hn : ns = [] := by
      have := congrArg Array.size hrun
      simp at this
      exact List.eq_nil_of_length_eq_zero (by simpa using this.symm)
    subst hn
    simp [convert, run_underlying h1, run_underlying h2, run_underlying h8, Conv.bytesToString]
    rfl
  | some a =>
    simp only [Builtin.firstCells, Nat.mul_one] at hrun
    have := key ns .empty
    simp [convert, run_underlying h1, run_underlying h2, run_underlying h8, Conv.bytesToString, hrun] at this ⊢
    simp only [this]

theorem runes_fold : ∀ {cs : List V} {acc s : ByteArray} {ys : List Value}, runesOf acc cs = some s → VRs ρ cs ys → ∃ ns : List Int, ys = ns.map (.int .i32) ∧ s = ns.foldl (fun a n => a ++ Utf8.encode n) acc
  | [], acc, s, ys, h, hv => by
    cases h
    exact ⟨[], List.eq_nil_of_length_eq_zero (by simpa using hv.1.symm), rfl⟩
  | c :: cs, acc, s, [], h, hv => by have := hv.1; simp at this
  | c :: cs, acc, s, y :: ys, h, hv => by
    have hc : ∃ n, c = .int .i32 n := by
      unfold runesOf at h
      split at h
      · rename_i e; cases e
      · rename_i e; cases e; exact ⟨_, rfl⟩
      · cases h
    obtain ⟨n, rfl⟩ := hc
    simp only [runesOf] at h
    have h0 := hv.2 0 (by simp)
    simp only [List.getD_cons_zero] at h0
    cases h0
    obtain ⟨ns, rfl, rfl⟩ := runes_fold h (⟨by simpa using hv.1, fun i hi => by simpa using hv.2 (i + 1) (by simpa using hi)⟩ : VRs ρ cs ys)
    exact ⟨n :: ns, rfl, rfl⟩
theorem sim_strRs {e : TypeId} {src dst : TypeId} (h1 : P.underlying src = some (.slice e)) (h2 : P.underlying dst = some .string) (h8 : P.underlying e = some (.int .i32)) {X : V} {x : Value} (hX : FV ρ lam X x) (hH : RelH ρ H w) {v : V} (hv : vstrRs H X = some v) :
    ∃ y, (convert src dst x).run P w = .ok y w ∧ VR ρ v y := by
  unfold vstrRs at hv
  split at hv
  case h_2 => cases hv
  rename_i cs hcs
  split at hv
  case h_2 => cases hv
  rename_i bs hbs
  cases hv
  obtain ⟨ad, m, cap, ys, rfl, hrun, hys⟩ := load_cells (P := P) hcs hX hH
  obtain ⟨ns, rfl, rfl⟩ := runes_fold hbs hys
  refine ⟨.string (ns.foldl (fun a n => a ++ Utf8.encode n) .empty), ?_, .str _⟩
  have key : ∀ (ns : List Int) (acc : ByteArray), (forIn (ns.map (Value.int .i32)) acc fun c (s : ByteArray) => (match c with
      | .int .i32 n => pure (ForInStep.yield (s ++ Utf8.encode n))
      | _ => stuck "runesToString: rune expected" : Sem (ForInStep ByteArray))).run P w = .ok (ns.foldl (fun a n => a ++ Utf8.encode n) acc) w := by
    intro ns
    induction ns with
    | nil => intro acc; simp
    | cons n ns ih =>
      intro acc
      simp only [List.map_cons, List.forIn_cons, Sem.run_bind, Sem.run_pure, Result.andThen_ok, ih, List.foldl_cons]
  cases ad with
  | none =>
    simp only [Builtin.firstCells, Sem.run_pure, Result.ok.injEq, and_true] at hrun
    have hn : ns = [] := by
      have := congrArg Array.size hrun
      simp at this
      exact List.eq_nil_of_length_eq_zero (by simpa using this.symm)
    subst hn
    simp [convert, run_underlying h1, run_underlying h2, run_underlying h8, Conv.runesToString]
  | some a =>
    simp only [Builtin.firstCells, Nat.mul_one] at hrun
    have := key ns .empty
    simp [convert, run_underlying h1, run_underlying h2, run_underlying h8, Conv.runesToString, hrun] at this ⊢
    try simp only [this]

/-! slices whose room is known -/
theorem vr_mkslc {b off len sz cp r o c mcap : Nat} (hρ : ρ b = some (r, o, c)) (h1 : len ≤ cp) (h2 : cp ≤ mcap) (h3 : off + mcap * sz ≤ c) : VR ρ (mkslc b off len sz cp) (.slice (some ⟨r, o + off, none⟩) len mcap) := by
  unfold mkslc
  split
  · exact .sl hρ (by omega) h3
  · exact .slc hρ h1 h2 h3
theorem slicedC {b off sz r oo c mcap cp l h : Nat} {u : V} (hρ : ρ b = some (r, oo, c)) (hc : off + mcap * sz ≤ c) (hcp : cp ≤ mcap) (hlh : l ≤ h) (hh : h ≤ cp)
    (hu : (if l = 0 then some (mkslc b off h sz cp) else if l = cp then some V.sempty else some (mkslc b (off + l * sz) (h - l) sz (cp - l))) = some u) :
    VR ρ u (.slice (some (if mcap = l then ⟨r, oo + off, none⟩ else (⟨r, oo + off, none⟩ : Addr).add (l * sz))) (h - l) (mcap - l)) := by
  split at hu
  · rename_i h0
    cases hu
    subst h0
    have e : (if mcap = 0 then (⟨r, oo + off, none⟩ : Addr) else (⟨r, oo + off, none⟩ : Addr).add (0 * sz)) = ⟨r, oo + off, none⟩ := by
      split <;> simp [Addr.add]
    rw [e, Nat.sub_zero, Nat.sub_zero]
    exact vr_mkslc hρ hh hcp hc
  · rename_i h0
    split at hu
    · rename_i h1
      cases hu
      have : h - l = 0 := by omega
      rw [this]
      exact .sempty
    · rename_i h1
      cases hu
      have hne : ¬ mcap = l := by omega
      rw [if_neg hne, addr_add, Nat.add_assoc]
      refine vr_mkslc hρ (by omega) (by omega) ?_
      have : (mcap - l) * sz + l * sz = mcap * sz := by rw [← Nat.add_mul]; congr 1; omega
      omega
theorem slC_rel {t e : TypeId} {sz : Nat} {lo' hi' : Option Operand} {lo hi : Option Opd} {X : V} {x : Value} {u : V} (hu : P.underlying t = some (.slice e)) (hsz : sizeV P e = some sz) (hX : FV ρ lam X x) (hlo : slimOpdO lo' = some lo) (hhi : slimOpdO hi' = some hi)
    (hF : FRel ρ lam fr a.tmps) (hv : vslC sz X (opdO fr lo) (opdO fr hi) = some u) : ∃ y, (Instr.sliceAt t x (lo'.map a.eval) (hi'.map a.eval) none).run P w = .ok y w ∧ VR ρ u y := by
  cases X <;> simp only [vslC] at hv <;> try (cases hv; done)
  · split at hv
    case h_2 => cases hv
    rename_i lh hb
    cases hv
    obtain ⟨l, h⟩ := lh
    obtain ⟨b1, b2, hrun⟩ := bounds_rel (P := P) (w := w) (isS := true) (Nat.le_refl 0) hlo hhi hF hb
    have hl : l = 0 := by omega
    have hh : h = 0 := by omega
    subst hl hh
    refine ⟨.slice none 0 0, ?_, .snil⟩
    simp only [Instr.sliceAt, Instr.slice, Sem.run_bind, run_underlying hu, Result.andThen_ok, hX.snil, Option.map_none, hrun, sizeV_run hsz, if_true, Sem.run_pure]
  · rename_i b off len sz'
    split at hv
    case isFalse => cases hv
    rename_i hse
    subst hse
    split at hv
    case h_2 => cases hv
    rename_i l h hb
    obtain ⟨r, oo, c, cap, hρ, h2, h3, hxe⟩ := hX.sl
    obtain ⟨b1, b2, hrun⟩ := bounds_rel (P := P) (w := w) (isS := true) h2 hlo hhi hF hb
    have hv2 := slicedC (sz := sz') (mcap := cap) hρ h3 h2 b1 b2 hv
    refine ⟨_, ?_, hv2⟩
    simp only [Instr.sliceAt, Instr.slice, Sem.run_bind, run_underlying hu, Result.andThen_ok, hxe, Option.map_none, Option.map_some, hrun, sizeV_run hsz, Sem.run_pure]
    by_cases e1 : cap = l <;> simp [e1]
  · rename_i b off len sz' cp
    split at hv
    case isFalse => cases hv
    rename_i hse
    subst hse
    split at hv
    · cases hv
    rename_i hiv hhv
    split at hv
    case h_2 => cases hv
    rename_i l h hb
    obtain ⟨r, oo, c, mcap, hρ, h2, h3, h4, hxe⟩ := hX.slc
    rw [← hhv] at hb
    obtain ⟨b1, b2, hrun⟩ := bounds_rel (P := P) (w := w) (isS := true) h3 hlo hhi hF hb
    have hv2 := slicedC (sz := sz') (mcap := mcap) hρ h4 h3 b1 b2 hv
    refine ⟨_, ?_, hv2⟩
    have hsome : ∃ z, hi'.map a.eval = some z := by
      cases hi' with
      | none => simp [slimOpdO] at hhi; subst hhi; simp [opdO] at hhv
      | some z => exact ⟨_, rfl⟩
    obtain ⟨z, hz⟩ := hsome
    have hrun2 : (Instr.sliceBounds true len mcap (lo'.map a.eval) (some z) none).run P w = .ok (l, h, mcap) w := by rw [hz] at hrun; exact hrun
    simp only [Instr.sliceAt, Instr.slice, Sem.run_bind, run_underlying hu, Result.andThen_ok, hxe, Option.map_none, Option.map_some, hz, hrun2, sizeV_run hsz, Sem.run_pure]
    by_cases e1 : mcap = l <;> simp [e1]
/-- APPEND, where the room may be known -/
theorem sim_apc {wk : Bool} {st xt ty e : TypeId} {i : TypeInfo} {zv : Value} (hus : P.underlying st = some (.slice e)) {e2 : TypeId} (hux : P.underlying xt = some (.slice e2)) (hi : P.info? e = some i) (hz : i.zero = some zv)
    (hzs : zv.cells.size = i.size) (hb : 0 < i.bytes) {X Y : V} {x y : Value} (hX : FV ρ lam X x) (hY : FV ρ lam Y y)
    (hs : s.run P w = ((Builtin.append_ #[st, xt] ty #[x, y]).run P w).andThen fun v w => .ok (.value v) w) (hH : RelH ρ H w) (hL : RelL A ρ lam L w) {v : V}
    (he : vappC wk lim i.size i.bytes H X Y = some (v, H')) (hfR : FreeR ρ H.length H'.length) : OpSim P lim tg A ρ lam L H w s v L H' := by
  unfold vappC at he
  split at he
  case h_2 => exact sim_append hus hux hi hz hzs hb hX hY hs hH hL he hfR
  rename_i b off len sz' cp
  split at he
  case h_2 => cases he
  rename_i new kk k hcell hk
  obtain ⟨ad, m, cap2, rfl, hkm, hkk, hadn⟩ := lenS_rel hk hY
  subst hkm
  obtain ⟨ys, hfc, hys, hsc, hysl⟩ := cells_rel (P := P) hcell hY hH hk
  split at he
  case isFalse => cases he
  rename_i hcond
  obtain ⟨hse, hroom⟩ := hcond
  subst hse
  simp only [Int.toNat_natCast] at hroom he
  obtain ⟨r, oo, c, mcap, hρ, h2, h3, h4, rfl⟩ := hX.slc
  have h1 := hfc m (Nat.le_refl _)
  rw [List.take_of_length_le (by omega)] at h1
  have fin : ∀ {w' : World}, (storeCells ((⟨r, oo + off, none⟩ : Addr).add (len * i.size)) ys).run P w = .ok () w' → s.run P w = .ok (.value (.slice (some ⟨r, oo + off, none⟩) (len + m) mcap)) w' := by
    intro w' hst
    rw [hs, run_append_fits (P := P) (w := w) (ad := ⟨r, oo + off, none⟩) (n := len) (cap := mcap) (ty := ty) hus hux hi lenOf_run (by omega) h1 hst]
    rfl
  have hvr : VR ρ (if wk then V.sl b off (len + m) i.size else mkslc b off (len + m) i.size cp) (.slice (some ⟨r, oo + off, none⟩) (len + m) mcap) := by
    split
    · exact .sl hρ (by omega) h4
    · exact vr_mkslc hρ hroom h3 h4
  by_cases h0 : (m : Int) = 0
  · simp only [h0, if_true] at he
    cases he
    have hm : m = 0 := by omega
    subst hm
    have hy0 : ys = [] := List.eq_nil_of_length_eq_zero (by simpa using hysl)
    subst hy0
    exact OpSim.pure (fin (by simp [storeCells])) (.vr hvr) hH hL
  · simp only [if_neg h0] at he
    split at he
    case h_2 => cases he
    rename_i H2 hst
    cases he
    obtain ⟨w', hrun, q1, q2, q3⟩ := write_rel (P := P) (tg := tg) hH hL hst hρ hys hsc
    rw [← Nat.add_assoc] at hrun
    exact ⟨_, ρ, lam, w', Or.inl (fin (by rw [addr_add]; exact hrun)), .vr hvr, q1, q2, q3.wide⟩

/-- APPEND to a slice without room -/
theorem sim_ap0 {st xt ty e : TypeId} {i : TypeInfo} {zv : Value} (hus : P.underlying st = some (.slice e)) {e2 : TypeId} (hux : P.underlying xt = some (.slice e2)) (hi : P.info? e = some i) (hz : i.zero = some zv)
    (hzs : zv.cells.size = i.size) (hb : 0 < i.bytes) {X Y : V} {x y : Value} (hX : FV ρ lam X x) (hY : FV ρ lam Y y)
    (hs : s.run P w = ((Builtin.append_ #[st, xt] ty #[x, y]).run P w).andThen fun v w => .ok (.value v) w) (hH : RelH ρ H w) (hL : RelL A ρ lam L w) {v : V}
    (he : vapp0 i.size i.bytes H X Y = some (v, H')) (hfR : FreeR ρ H.length H'.length) : OpSim P lim tg A ρ lam L H w s v L H' := by
  unfold vapp0 at he
  split at he
  case h_2 => cases he
  obtain ⟨ad0, rfl⟩ := hX.szero
  split at he
  case h_2 => cases he
  rename_i new kk k hcell hk
  obtain ⟨ad, m, cap2, rfl, hkm, hkk, hadn⟩ := lenS_rel hk hY
  subst hkm
  obtain ⟨ys, hfc, hys, hsc, hysl⟩ := cells_rel (P := P) hcell hY hH hk
  obtain ⟨ys', hfc', hys', hsc', hysl'⟩ := cells_rel (P := P) hcell hY hH.drew hk
  have hnew : new.length = m * i.size := by rw [hys.1]; exact hysl
  split at he
  · rename_i hk0
    cases he
    have hm0 : m = 0 := by omega
    subst hm0
    have h0 := hfc 0 (Nat.le_refl _)
    refine OpSim.pure (x := .slice (some ad0) 0 0) ?_ (.vr .sempty) hH hL
    rw [hs, run_append_fits (P := P) (w := w) (ad := ad0) (n := 0) (cap := 0) (ty := ty) hus hux hi lenOf_run (Nat.le_refl _) (new := []) (by simpa using h0) (w' := w) (by simp [storeCells])]
    rfl
  · rename_i hk0
    split at he
    case isFalse => cases he
    rename_i hbd
    split at he
    case isFalse => cases he
    cases he
    simp only [Int.toNat_natCast] at hbd hfR ⊢
    have h1 := hfc' m (Nat.le_refl _)
    rw [List.take_of_length_le (by omega)] at h1
    obtain ⟨nc, hnc, hrun⟩ := run_append_grows (P := P) (w := w) (base := some ad0) (n := 0) (cap := 0) (ty := ty) (old := []) hus hux hi hz hb lenOf_run (by omega) (by simpa using hbd) (by simp [Builtin.firstCells, loadCells, loadCellsFrom]) h1
    simp only [Nat.zero_add] at hnc hrun
    have hCsz : (([] : List Value).toArray ++ ys'.toArray ++ Builtin.zeroCells zv.cells (nc - m)).size = nc * i.size := by
      simp only [Builtin.zeroCells, hzs, List.append_toArray, List.nil_append, Array.size_append, List.size_toArray, Array.size_map, Array.size_range, hysl']
      rw [← Nat.add_mul]; congr 1; omega
    obtain ⟨f1, f2, f3, f4⟩ := alloc_facts w.drew (([] : List Value).toArray ++ ys'.toArray ++ Builtin.zeroCells zv.cells (nc - m)) e
    refine OpSim.pushH (c := nc * i.size) hH hL (by simpa using hfR) (by rw [hs, hrun]; rfl) ⟨f1, rfl, rfl⟩ f2 f3 f4 (Nat.le_of_eq hCsz.symm) ?_ ?_ (vr_newsl hnc (Nat.le_refl _))
    · rw [hnew]; exact Nat.mul_le_mul_right _ hnc
    · refine RowAt.of_prefix hys' hsc (fun j hj => ?_)
      rw [Array.getElem?_append_left (by simp [hysl']; omega)]
      simp

theorem zeroCells_none {zv : Array Value} {m : Nat} (h : m * zv.size = 0) : Builtin.zeroCells zv m = #[] := by
  have er : Array.range 0 = #[] := rfl
  unfold Builtin.zeroCells
  rw [h, er]; simp
/-- append of zeros, the model's -/
theorem run_append_zeros {st it ty e : TypeId} {i : TypeInfo} {zv : Value} {ik k : IntKind} (hus : P.underlying st = some (.slice e)) (hui : P.underlying it = some (.int ik)) (hi : P.info? e = some i) (hz : i.zero = some zv) (hzs : zv.cells.size = i.size)
    (hb : 0 < i.bytes) {m : Nat} (hm : 0 < m) (hsize : m * i.bytes ≤ 140737488355328) (hm2 : m < 4611686018427387904) :
    ∃ nc, m ≤ nc ∧ (Builtin.append_ #[st, it] ty #[.slice none 0 0, .int k (m : Int)]).run P w = .ok (.slice (some ⟨w.heap.size, 0, none⟩) m nc) (w.drew.alloc (.cells (Builtin.zeroCells zv.cells m ++ Builtin.zeroCells zv.cells (nc - m)) e)) := by
  let q := Question.appendCap m 0 e
  refine ⟨q.cut (w.tape w.drawn q), ?_, ?_⟩
  · simp only [q, Question.cut]; omega
  have h48 : ¬ (Builtin.nextslicecap m 0) * i.bytes > 2 ^ 48 := by
    have h1 := nextslicecap_le (need := m) (old := 0) hm
    have h2 : Builtin.nextslicecap m 0 * i.bytes ≤ 2 * m * i.bytes := Nat.mul_le_mul_right _ h1
    rw [Nat.mul_assoc] at h2
    omega
  have hw : IntKind.wrap .i64 (m : Int) = m := by simp [IntKind.wrap, IntKind.bits, IntKind.signed]; omega
  have hneg : ¬ ((m : Int) < 0) := by omega
  have hl48 : ¬ ((m : Int) * (i.bytes : Int) > 2 ^ 48) := by
    have e1 : (m : Int) * (i.bytes : Int) = ((m * i.bytes : Nat) : Int) := by simp
    rw [e1]; omega
  have hl48b : ¬ (281474976710656 < (m : Int) * (i.bytes : Int)) := by
    have e1 : (m : Int) * (i.bytes : Int) = ((m * i.bytes : Nat) : Int) := by simp
    rw [e1]; omega
  have hno : ¬ (m ≤ 0) := by omega
  have hmx : ¬ ((m : Int) > IntKind.i64.max) := by rw [IntKind.max_i64]; omega
  have hm0 : ¬ m = 0 := by omega
  have hb0 : ¬ i.bytes = 0 := by omega
  have hmy : ¬ (9223372036854775807 < (m : Int)) := by omega
  by_cases h0 : m * i.size = 0
  · have ez : Builtin.zeroCells zv.cells m = #[] := zeroCells_none (by rw [hzs]; exact h0)
    rw [ez]
    rcases Nat.mul_eq_zero.1 h0 with h | h
    · omega
    simp [Builtin.append_, run_underlying hus, run_underlying hui, sizeOf, typeInfo, hi, asInt, asIntOf, hw, hneg, hl48, hl48b, hno, h48, hmx, hmy, q, Question.forced, zeroValue, hz, newRow, Builtin.firstCells, h, hm0, hb0]
  · have hi0 : ¬ i.size = 0 := fun h => h0 (by rw [h]; simp)
    simp [Builtin.append_, run_underlying hus, run_underlying hui, sizeOf, typeInfo, hi, asInt, asIntOf, hw, hneg, hl48, hl48b, hno, h48, hmx, hmy, q, Question.forced, zeroValue, hz, newRow, Builtin.firstCells, h0, hm0, hb0, hi0]
theorem sim_apz {st it ty e : TypeId} {i : TypeInfo} {zv : Value} {z : List V} {ik : IntKind} (hus : P.underlying st = some (.slice e)) (hui : P.underlying it = some (.int ik)) (hi : P.info? e = some i) (hz : i.zero = some zv)
    (hzs : zv.cells.size = i.size) (hb : 0 < i.bytes) (hzv : zeroV P e = some z) {X Y : V} {x y : Value} (hX : FV ρ lam X x) (hY : FV ρ lam Y y)
    (hs : s.run P w = ((Builtin.append_ #[st, it] ty #[x, y]).run P w).andThen fun v w => .ok (.value v) w) (hH : RelH ρ H w) (hL : RelL A ρ lam L w) {v : V}
    (he : vappz i.size i.bytes z H X Y = some (v, H')) (hfR : FreeR ρ H.length H'.length) : OpSim P lim tg A ρ lam L H w s v L H' := by
  unfold vappz at he
  split at he
  case h_2 => cases he
  rename_i k n
  have := hX.snil; subst this
  have := hY.int; subst this
  split at he
  · rename_i h0
    cases he
    subst h0
    refine OpSim.pure (x := .slice none 0 0) ?_ (.vr .snil) hH hL
    rw [hs]
    have hw : IntKind.wrap .i64 0 = 0 := by simp [IntKind.wrap, IntKind.bits, IntKind.signed]
    simp [Builtin.append_, run_underlying hus, run_underlying hui, sizeOf, typeInfo, hi, asInt, asIntOf, hw]
  · rename_i h0
    split at he
    case isFalse => cases he
    rename_i hc
    obtain ⟨c0, c1, c2, c3⟩ := hc
    cases he
    obtain ⟨m, rfl⟩ : ∃ m : Nat, n = m := ⟨n.toNat, by omega⟩
    simp only [Int.toNat_natCast] at c2 hfR ⊢
    obtain ⟨nc, hnc, hrun⟩ := run_append_zeros (P := P) (w := w) (ty := ty) (k := k) hus hui hi hz hzs hb (m := m) (by omega) c2 (by omega)
    obtain ⟨zv', hzr, q1, q2⟩ := rowOf_rel (P := P) (w := w) (ρ := ρ) hzv m
    have ezv : zv' = zv := by
      simp [zeroValue, typeInfo, hi, hz] at hzr
      exact hzr.symm
    subst ezv
    have hC1 : (Builtin.zeroCells zv'.cells m).size = m * i.size := by simp [Builtin.zeroCells, hzs]
    have hCsz : (Builtin.zeroCells zv'.cells m ++ Builtin.zeroCells zv'.cells (nc - m)).size = nc * i.size := by
      simp only [Builtin.zeroCells, hzs, Array.size_append, Array.size_map, Array.size_range]
      rw [← Nat.add_mul]; congr 1; omega
    obtain ⟨f1, f2, f3, f4⟩ := alloc_facts w.drew (Builtin.zeroCells zv'.cells m ++ Builtin.zeroCells zv'.cells (nc - m)) e
    have hrl : (rowOf m z).length = m * i.size := by simp [rowOf, c1]
    refine OpSim.pushH (c := nc * i.size) hH hL (by simpa using hfR) (by rw [hs, hrun]; rfl) ⟨f1, rfl, rfl⟩ f2 f3 f4 (Nat.le_of_eq hCsz.symm) ?_ ?_ (vr_newsl hnc (Nat.le_refl _))
    · rw [hrl]; exact Nat.mul_le_mul_right _ hnc
    · refine RowAt.of_prefix q1 q2 (fun j hj => ?_)
      rw [Array.getElem?_append_left (by rw [hC1]; omega)]
      simp

end
end Go.Proofs.YtpdnbmnnkefedaaGreatDoor.Vm
