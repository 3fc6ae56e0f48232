/- Equality of structs and arrays of numbers, bools and texts. -/
import Derived.Test.YtpdnbmnnkefedaaGreatDoorVmOps4
import Derived.Laws.StructEq
namespace Go.Proofs.YtpdnbmnnkefedaaGreatDoor.Vm
open Go
set_option linter.unusedVariables false
set_option linter.unusedSimpArgs false

section
variable {P : Program} {ρ : Loc} {w : World}

def eqElems (d : Nat) (e s : Nat) (xs ys : Array Value) : Nat → Nat → Sem Bool
  | 0, _ => pure true
  | k + 1, i => do
    let a ← part e xs (i * s)
    let b ← part e ys (i * s)
    let r ← Op.equalIn d e a b
    if (!r) = true then pure false else eqElems d e s xs ys k (i + 1)

theorem run_equalIn_array (w : World) (d : Nat) (t : TypeId) (n e s : Nat) (xs ys : Array Value) (ht : P.underlying t = some (.array n e)) (hs : sizeV P e = some s) :
    (Op.equalIn (d + 1) t (.agg xs) (.agg ys)).run P w = (eqElems d e s xs ys n 0).run P w := by
  simp only [Op.equalIn, Sem.run_bind, run_underlying ht, Result.andThen_ok, sizeV_run hs]
  rw [Std.Legacy.Range.forIn_eq_forIn_range']
  have key : ∀ (k i : Nat) (w : World), ((forIn (List.range' i k 1) ((none, ()) : Option Bool × Unit) fun i (_ : Option Bool × Unit) => do
      let __do_lift ← part e xs (i * s)
      let __do_lift_1 ← part e ys (i * s)
      let __do_lift ← Op.equalIn d e __do_lift __do_lift_1
      if (!__do_lift) = true then pure (ForInStep.done (some false, ()))
        else pure (ForInStep.yield (none, ())) : Sem (Option Bool × Unit)).run P w).andThen
        (fun r w' => (match r.fst with | some a => (pure a : Sem Bool) | none => pure true).run P w') = (eqElems d e s xs ys k i).run P w := by
    intro k
    induction k with
    | zero => intro i w; simp [eqElems]
    | succ k ih =>
      intro i w
      simp only [List.range'_succ, List.forIn_cons, eqElems, Sem.run_bind, Sem.run_ite]
      generalize (part e xs (i * s)).run P w = r1
      cases r1 with
      | ok a w1 =>
        simp only [Result.andThen_ok]
        generalize (part e ys (i * s)).run P w1 = r2
        cases r2 with
        | ok b w2 =>
          simp only [Result.andThen_ok]
          generalize (Op.equalIn d e a b).run P w2 = r3
          cases r3 with
          | ok r w3 =>
            cases r
            · simp only [Result.andThen_ok, Bool.not_false, if_true, Sem.run_pure]
            · simp only [Result.andThen_ok, Bool.not_true, Bool.false_eq_true, if_false, Sem.run_pure]
              exact ih (i + 1) w3
          | halt x w3 => simp [Result.andThen]
        | halt x w2 => simp [Result.andThen]
      | halt x w1 => simp [Result.andThen]
  rw [← key n 0 w]
  simp only [Std.Legacy.Range.size, Nat.sub_zero, Nat.add_one_sub_one, Nat.div_one]
  refine congrArg (Result.andThen _) ?_
  funext a w'
  rcases a with ⟨_ | _, _⟩ <;> rfl

theorem eqCells_length : ∀ {ks : List CK} {xs ys : List V} {b : Bool}, eqCells ks xs ys = some b → xs.length = ks.length ∧ ys.length = ks.length
  | [], [], [], _, _ => ⟨rfl, rfl⟩
  | k :: ks, x :: xs, y :: ys, b, h => by
    simp only [eqCells] at h
    split at h
    · rename_i a c h1 h2
      have := eqCells_length h2
      simp [this.1, this.2]
    · cases h
  | [], x :: xs, ys, _, h => by simp [eqCells] at h
  | [], [], y :: ys, _, h => by simp [eqCells] at h
  | k :: ks, [], ys, _, h => by simp [eqCells] at h
  | k :: ks, x :: xs, [], _, h => by simp [eqCells] at h

theorem eqCells_append : ∀ {k1 k2 : List CK} {xs ys : List V} {b : Bool}, eqCells (k1 ++ k2) xs ys = some b →
    ∃ b1 b2, eqCells k1 (xs.take k1.length) (ys.take k1.length) = some b1 ∧ eqCells k2 (xs.drop k1.length) (ys.drop k1.length) = some b2 ∧ b = (b1 && b2)
  | [], k2, xs, ys, b, h => ⟨true, b, by simp [eqCells], by simpa using h, by simp⟩
  | k :: k1, k2, x :: xs, y :: ys, b, h => by
    simp only [List.cons_append, eqCells] at h
    split at h
    · rename_i a c h1 h2
      cases h
      obtain ⟨b1, b2, g1, g2, rfl⟩ := eqCells_append h2
      exact ⟨a && b1, b2, by simp [eqCells, h1, g1], by simpa using g2, by simp [Bool.and_assoc]⟩
    · cases h
  | k :: k1, k2, [], ys, b, h => by simp [eqCells] at h
  | k :: k1, k2, x :: xs, [], b, h => by simp [eqCells] at h

/-- the statement of one type, in the middle of two arrays of cells -/
def EqPart (P : Program) (ρ : Loc) (d : Nat) : Prop :=
  ∀ (t : TypeId) (ks : List CK), flat P d t = some ks → sizeV P t = some ks.length → ∀ (D : Nat), d ≤ D → ∀ (w : World) (off : Nat) (X Y : Array Value) (xs ys : List V) (b : Bool),
    VRs ρ xs ((X.toList.drop off).take ks.length) → VRs ρ ys ((Y.toList.drop off).take ks.length) → eqCells ks xs ys = some b →
    ((part t X off).run P w).andThen (fun a w1 => ((part t Y off).run P w1).andThen fun c w2 => (Op.equalIn D t a c).run P w2) = .ok b w

theorem isAgg_of {t : TypeId} {d : TypeDesc} (h : P.underlying t = some d) : (isAgg t).run P w = .ok (match d with | .struct _ | .array _ _ => true | _ => false) w := by
  simp only [isAgg, Sem.run_bind, run_underlying h, Result.andThen_ok]
  cases d <;> rfl

theorem eqFields_run {d D : Nat} (ih : EqPart P ρ d) (hD : d ≤ D) (X Y : Array Value) (w : World) : ∀ (fs : List Field) (o : Nat) (ks : List CK), flatFields P (flat P d) fs o = some ks →
    ∀ (xs ys : List V) (b : Bool), VRs ρ xs ((X.toList.drop o).take ks.length) → VRs ρ ys ((Y.toList.drop o).take ks.length) → eqCells ks xs ys = some b → (Op.eqFields D X Y fs).run P w = .ok b w
  | [], o, ks, h, xs, ys, b, h1, h2, h3 => by
    simp [flatFields] at h; subst h
    have h1' : xs = [] := by have := h1.1; simp at this; exact this
    have h2' : ys = [] := by have := h2.1; simp at this; exact this
    subst h1' h2'
    simp [eqCells] at h3; subst h3
    simp [Op.eqFields]
  | f :: fs, o, ks, h, xs, ys, b, h1, h2, h3 => by
    simp only [flatFields] at h
    split at h
    case isFalse => cases h
    rename_i hf
    split at h
    case h_2 => cases h
    rename_i k1 s hk1 hs
    split at h
    case isFalse => cases h
    rename_i hlen
    split at h
    case h_2 => cases h
    rename_i k2 hk2
    cases h
    obtain ⟨b1, b2, g1, g2, rfl⟩ := eqCells_append h3
    obtain ⟨hfo, hfn⟩ := hf
    have hl := eqCells_length h3
    have r1 : ∀ (zs : List V) (Z : Array Value), VRs ρ zs ((Z.toList.drop o).take (k1 ++ k2).length) → VRs ρ (zs.take k1.length) ((Z.toList.drop o).take k1.length) ∧ VRs ρ (zs.drop k1.length) ((Z.toList.drop (o + s)).take k2.length) := by
      intro zs Z hz
      have e1 := hz.take k1.length
      have e2 := hz.drop k1.length
      rw [List.take_take, Nat.min_eq_left (by simp)] at e1
      rw [List.drop_take, List.drop_drop, List.length_append, Nat.add_sub_cancel_left, hlen] at e2
      exact ⟨e1, by rw [hlen]; exact e2⟩
    obtain ⟨x1, x2⟩ := r1 xs X h1
    obtain ⟨y1, y2⟩ := r1 ys Y h2
    have hpart := ih f.type k1 hk1 (by rw [hlen]; exact hs) D hD w o X Y _ _ b1 x1 y1 g1
    have hrest := eqFields_run ih hD X Y w fs (o + s) k2 hk2 _ _ b2 x2 y2 g2
    simp only [Op.eqFields, ne_eq, hfn, not_false_eq_true, if_true, Sem.run_bind, hfo]
    have hpart' : ((part f.type X o).run P w).andThen (fun a w1 => ((part f.type Y o).run P w1).andThen fun c w2 => ((Op.equalIn D f.type a c).run P w2).andThen fun r w3 => (if (!r) = true then pure false else Op.eqFields D X Y fs : Sem Bool).run P w3) =
        (((part f.type X o).run P w).andThen (fun a w1 => ((part f.type Y o).run P w1).andThen fun c w2 => (Op.equalIn D f.type a c).run P w2)).andThen fun r w3 => (if (!r) = true then pure false else Op.eqFields D X Y fs : Sem Bool).run P w3 := by
      generalize (part f.type X o).run P w = q1
      cases q1 with
      | halt _ _ => rfl
      | ok a w1 =>
        simp only [Result.andThen_ok]
        generalize (part f.type Y o).run P w1 = q2
        cases q2 <;> rfl
    rw [hpart', hpart]
    cases b1
    · simp
    · simpa using hrest

theorem eqElems_run {d D e s : Nat} (ih : EqPart P ρ d) (hD : d ≤ D) {k0 : List CK} (hk0 : flat P d e = some k0) (hs : sizeV P e = some s) (hlen : k0.length = s) (X Y : Array Value) (w : World) :
    ∀ (n i : Nat) (xs ys : List V) (b : Bool), VRs ρ xs ((X.toList.drop (i * s)).take (n * s)) → VRs ρ ys ((Y.toList.drop (i * s)).take (n * s)) → eqCells (List.replicate n k0).flatten xs ys = some b →
      (eqElems D e s X Y n i).run P w = .ok b w
  | 0, i, xs, ys, b, h1, h2, h3 => by
    have h1' : xs = [] := by have := h1.1; simp at this; exact this
    have h2' : ys = [] := by have := h2.1; simp at this; exact this
    subst h1' h2'
    simp [eqCells] at h3; subst h3
    simp [eqElems]
  | n + 1, i, xs, ys, b, h1, h2, h3 => by
    rw [List.replicate_succ, List.flatten_cons] at h3
    obtain ⟨b1, b2, g1, g2, rfl⟩ := eqCells_append h3
    have r1 : ∀ (zs : List V) (Z : Array Value), VRs ρ zs ((Z.toList.drop (i * s)).take ((n + 1) * s)) → VRs ρ (zs.take k0.length) ((Z.toList.drop (i * s)).take k0.length) ∧ VRs ρ (zs.drop k0.length) ((Z.toList.drop ((i + 1) * s)).take (n * s)) := by
      intro zs Z hz
      have e1 := hz.take k0.length
      have e2 := hz.drop k0.length
      rw [List.take_take, Nat.min_eq_left (by rw [hlen, Nat.add_mul]; omega)] at e1
      rw [List.drop_take, List.drop_drop, hlen, Nat.add_mul, Nat.one_mul, Nat.add_sub_cancel] at e2
      exact ⟨e1, by rw [Nat.add_mul, Nat.one_mul, hlen]; exact e2⟩
    obtain ⟨x1, x2⟩ := r1 xs X h1
    obtain ⟨y1, y2⟩ := r1 ys Y h2
    have hpart := ih e k0 hk0 (by rw [hlen]; exact hs) D hD w (i * s) X Y _ _ b1 x1 y1 g1
    have hrest := eqElems_run ih hD hk0 hs hlen X Y w n (i + 1) _ _ b2 x2 y2 g2
    simp only [eqElems, Sem.run_bind]
    have hpart' : ((part e X (i * s)).run P w).andThen (fun a w1 => ((part e Y (i * s)).run P w1).andThen fun c w2 => ((Op.equalIn D e a c).run P w2).andThen fun r w3 => (if (!r) = true then pure false else eqElems D e s X Y n (i + 1) : Sem Bool).run P w3) =
        (((part e X (i * s)).run P w).andThen (fun a w1 => ((part e Y (i * s)).run P w1).andThen fun c w2 => (Op.equalIn D e a c).run P w2)).andThen fun r w3 => (if (!r) = true then pure false else eqElems D e s X Y n (i + 1) : Sem Bool).run P w3 := by
      generalize (part e X (i * s)).run P w = q1
      cases q1 with
      | halt _ _ => rfl
      | ok a w1 =>
        simp only [Result.andThen_ok]
        generalize (part e Y (i * s)).run P w1 = q2
        cases q2 <;> rfl
    rw [hpart', hpart]
    cases b1
    · simp
    · simpa using hrest

theorem fieldsOf_of {t : TypeId} {fs : Array Field} (h : P.underlying t = some (.struct fs)) : P.fieldsOf t = fs := by
  simp [Program.fieldsOf, h]

/-- a whole struct or array -/
theorem eq_agg {d D : Nat} (ih : EqPart P ρ d) (hD : d ≤ D) {t : TypeId} {ks : List CK} (h : flat P (d + 1) t = some ks) (hagg : ∃ fs, P.underlying t = some (.struct fs) ∨ ∃ n e, P.underlying t = some (.array n e))
    {X Y : Array Value} {xs ys : List V} {b : Bool} (h1 : VRs ρ xs X.toList) (h2 : VRs ρ ys Y.toList) (h3 : eqCells ks xs ys = some b) (w : World) :
    (Op.equalIn (D + 1) t (.agg X) (.agg Y)).run P w = .ok b w := by
  have hl := eqCells_length h3
  have hX : X.toList.length = ks.length := by rw [← h1.1]; exact hl.1
  have hY : Y.toList.length = ks.length := by rw [← h2.1]; exact hl.2
  obtain ⟨fs, hu | ⟨n, e, hu⟩⟩ := hagg
  · simp only [flat, hu] at h
    split at h
    case isTrue => cases h
    rename_i hst
    rw [run_equalIn_struct w D t X Y (by rw [fieldsOf_of hu]; exact hu) (by simpa using hst), fieldsOf_of hu]
    refine eqFields_run ih hD X Y w fs.toList 0 ks h xs ys b ?_ ?_ h3
    · rw [List.drop_zero, List.take_of_length_le (by omega)]; exact h1
    · rw [List.drop_zero, List.take_of_length_le (by omega)]; exact h2
  · simp only [flat, hu] at h
    split at h
    case h_2 => cases h
    rename_i k0 s hk0 hs
    split at h
    case isFalse => cases h
    rename_i hlen
    cases h
    have hfl : (List.replicate n k0).flatten.length = n * s := by simp [hlen]
    rw [run_equalIn_array w D t n e s X Y hu hs]
    refine eqElems_run ih hD hk0 hs hlen X Y w n 0 xs ys b ?_ ?_ h3
    · rw [Nat.zero_mul, List.drop_zero, List.take_of_length_le (by omega)]; exact h1
    · rw [Nat.zero_mul, List.drop_zero, List.take_of_length_le (by omega)]; exact h2

theorem part_one {t : TypeId} {d : TypeDesc} (h : P.underlying t = some d) (hd : (match d with | .struct _ | .array _ _ => true | _ => false) = false) {X : Array Value} {off : Nat} {x : Value} (hx : X[off]? = some x) (w : World) :
    (part t X off).run P w = .ok x w := by
  simp only [part, Sem.run_bind, isAgg_of h, hd, Result.andThen_ok, Bool.false_eq_true, if_false, hx, Sem.run_pure]

theorem eqPart_all : ∀ d, EqPart P ρ d
  | 0 => fun t ks h => by simp [flat] at h
  | d + 1 => by
    intro t ks h hs D hD w off X Y xs ys b h1 h2 h3
    obtain ⟨D, rfl⟩ : ∃ D', D = D' + 1 := ⟨D - 1, by omega⟩
    have ih := eqPart_all d
    have hl := eqCells_length h3
    have one : ∀ (k : CK), ks = [k] → ∃ x y u v, xs = [x] ∧ ys = [y] ∧ X[off]? = some u ∧ Y[off]? = some v ∧ VR ρ x u ∧ VR ρ y v ∧ eqCell k x y = some b := by
      intro k hk
      subst hk
      match xs, ys, hl.1, hl.2 with
      | [x], [y], _, _ =>
        have e1 : ∀ (Z : Array Value) (z : V), VRs ρ [z] ((Z.toList.drop off).take 1) → ∃ u, Z[off]? = some u ∧ VR ρ z u := by
          intro Z z hz
          have hz1 := hz.1
          have hz2 := hz.2 0 (by simp)
          cases hq : Z.toList.drop off with
          | nil => rw [hq] at hz1; simp at hz1
          | cons u rest =>
            rw [hq] at hz2
            refine ⟨u, ?_, by simpa using hz2⟩
            have : (Z.toList.drop off)[0]? = some u := by rw [hq]; rfl
            rw [List.getElem?_drop, Nat.add_zero, Array.getElem?_toList] at this
            exact this
        obtain ⟨u, hu, hxu⟩ := e1 X x h1
        obtain ⟨v, hv, hyv⟩ := e1 Y y h2
        refine ⟨x, y, u, v, rfl, rfl, hu, hv, hxu, hyv, ?_⟩
        simp only [eqCells] at h3
        split at h3
        · rename_i a c ha hc
          cases hc; cases h3
          simpa using ha
        · cases h3
    have agg : (∃ fs, P.underlying t = some (.struct fs) ∨ ∃ n e, P.underlying t = some (.array n e)) →
        ((part t X off).run P w).andThen (fun a w1 => ((part t Y off).run P w1).andThen fun c w2 => (Op.equalIn (D + 1) t a c).run P w2) = .ok b w := by
      intro hagg
      have hisagg : (isAgg t).run P w = .ok true w := by
        obtain ⟨fs, hu | ⟨n, e, hu⟩⟩ := hagg <;> simp [isAgg_of hu]
      have hp : ∀ Z : Array Value, (part t Z off).run P w = .ok (.agg (Z.extract off (off + ks.length))) w := by
        intro Z
        simp only [part, Sem.run_bind, hisagg, Result.andThen_ok, if_true, sizeV_run hs, Sem.run_pure]
      have hex : ∀ Z : Array Value, (Z.extract off (off + ks.length)).toList = (Z.toList.drop off).take ks.length := by
        intro Z; simp
      simp only [hp, Result.andThen_ok]
      exact eq_agg ih (by omega) h hagg (by rw [hex]; exact h1) (by rw [hex]; exact h2) h3 w
    cases hu : P.underlying t with
    | none => simp [flat, hu] at h
    | some dd =>
      cases dd with
      | int k =>
        simp [flat, hu] at h; subst h
        obtain ⟨x, y, u, v, rfl, rfl, hu1, hv1, hxu, hyv, hc⟩ := one _ rfl
        cases x <;> cases y <;> simp [eqCell] at hc
        obtain ⟨⟨rfl, rfl⟩, rfl⟩ := hc
        cases hxu; cases hyv
        simp only [part_one hu rfl hu1, part_one hu rfl hv1, Result.andThen_ok, run_equalIn_int w D t _ _ _ _ hu]
      | bool =>
        simp [flat, hu] at h; subst h
        obtain ⟨x, y, u, v, rfl, rfl, hu1, hv1, hxu, hyv, hc⟩ := one _ rfl
        cases x <;> cases y <;> simp [eqCell] at hc
        subst hc
        cases hxu; cases hyv
        simp only [part_one hu rfl hu1, part_one hu rfl hv1, Result.andThen_ok, run_equalIn_bool' w D t _ _ hu]
      | string =>
        simp [flat, hu] at h; subst h
        obtain ⟨x, y, u, v, rfl, rfl, hu1, hv1, hxu, hyv, hc⟩ := one _ rfl
        cases x <;> cases y <;> simp [eqCell] at hc
        subst hc
        cases hxu; cases hyv
        simp only [part_one hu rfl hu1, part_one hu rfl hv1, Result.andThen_ok, run_equalIn_string w D t _ _ hu, beq_toListBytes]
      | struct fs => exact agg ⟨fs, Or.inl hu⟩
      | array n e => exact agg ⟨#[], Or.inr ⟨n, e, hu⟩⟩
      | _ => simp [flat, hu] at h

end
end Go.Proofs.YtpdnbmnnkefedaaGreatDoor.Vm
