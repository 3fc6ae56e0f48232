/- Arguments: whatever the kit's reading reads of ints, bools, texts, slices, structs and arrays has a start of the machine. -/
import Derived.Test.YtpdnbmnnkefedaaGreatDoorVmRules
import Derived.ProofKit
import Derived.OpenShut
import Derived.JoinedCond
namespace Go.Proofs.YtpdnbmnnkefedaaGreatDoor.Vm
open Go Go.RowKit Go.ChangeShapes
set_option linter.unusedVariables false
set_option linter.unusedSimpArgs false
attribute [-simp] List.getD_eq_getElem?_getD

/-! the heap grows -/
def HX (H H' : Hp) : Prop := ∃ X, H' = H ++ X
theorem HX.refl {H : Hp} : HX H H := ⟨[], by simp⟩
theorem HX.trans {H H' H'' : Hp} (h : HX H H') (k : HX H' H'') : HX H H'' := by
  obtain ⟨X, rfl⟩ := h; obtain ⟨Y, rfl⟩ := k; exact ⟨X ++ Y, by simp⟩
theorem HX.push {H : Hp} {x : Blk} : HX H (H ++ [x]) := ⟨[x], rfl⟩
theorem HX.len {H H' : Hp} (h : HX H H') : H.length ≤ H'.length := by
  obtain ⟨X, rfl⟩ := h; simp
theorem HX.get {H H' : Hp} (h : HX H H') {b : Nat} {x : Blk} (hb : H[b]? = some x) : H'[b]? = some x := by
  obtain ⟨X, rfl⟩ := h
  rw [List.getElem?_append_left (List.getElem?_eq_some_iff.1 hb).1]; exact hb
theorem HX.of {H H' : Hp} (h1 : H.length ≤ H'.length) (h2 : ∀ b, b < H.length → H'[b]? = H[b]?) : HX H H' := by
  refine ⟨H'.drop H.length, ?_⟩
  apply List.ext_getElem?
  intro i
  by_cases hi : i < H.length
  · rw [List.getElem?_append_left hi, h2 i hi]
  · rw [List.getElem?_append_right (by omega), List.getElem?_drop]
    congr 1; omega
theorem HX.same {H H' : Hp} (h : HX H H') {b : Nat} (hb : b < H.length) : H'[b]? = H[b]? := by
  obtain ⟨X, rfl⟩ := h
  exact List.getElem?_append_left hb

/-- kinds of cells -/
inductive CT where
  | int (k : IntKind) | bool | str | sl (e : List CT)
  deriving Inhabited
/-- data -/
inductive CD where
  | int (n : Int) | bool (b : Bool) | str (s : ByteArray) | sl (l : List (List CD))
  deriving Inhabited

inductive RepT (H : Hp) : CT → V → CD → Prop
  | int {k : IntKind} {n : Int} : (Lit.int k n).wf = true → RepT H (.int k) (.int k n) (.int n)
  | bool {b : Bool} : RepT H .bool (.bool b) (.bool b)
  | str {s : ByteArray} : s.size ≤ maxLen → RepT H .str (.str s) (.str s)
  | nil {e : List CT} : RepT H (.sl e) .snil (.sl [])
  | empty {e : List CT} : RepT H (.sl e) .sempty (.sl [])
  | sl {e : List CT} {b : Nat} {cs : List V} {own : Bool} {l : List (List CD)} : H[b]? = some (.row cs own) → cs.length = l.length * e.length → l.length ≤ maxLen →
      (∀ i, i < l.length → (l.getD i []).length = e.length) →
      (∀ i j, i < l.length → j < e.length → RepT H (e.getD j default) (cs.getD (i * e.length + j) dv) ((l.getD i []).getD j default)) →
      RepT H (.sl e) (.sl b 0 l.length e.length) (.sl l)

theorem RepT.mono {H H' : Hp} (hx : HX H H') {t : CT} {v : V} {d : CD} (h : RepT H t v d) : RepT H' t v d := by
  induction h with
  | int h => exact .int h
  | bool => exact .bool
  | str h => exact .str h
  | nil => exact .nil
  | empty => exact .empty
  | sl h1 h2 h3 h4 _ ih => exact .sl (hx.get h1) h2 h3 h4 ih

structure RepTs (H : Hp) (ts : List CT) (vs : List V) (ds : List CD) : Prop where
  lv : vs.length = ts.length
  ld : ds.length = ts.length
  at' : ∀ j, j < ts.length → RepT H (ts.getD j default) (vs.getD j dv) (ds.getD j default)

theorem RepTs.mono {H H' : Hp} (hx : HX H H') {ts : List CT} {vs : List V} {ds : List CD} (h : RepTs H ts vs ds) : RepTs H' ts vs ds :=
  ⟨h.lv, h.ld, fun j hj => (h.at' j hj).mono hx⟩
theorem RepTs.nil {H : Hp} : RepTs H [] [] [] := ⟨rfl, rfl, fun j hj => by simp at hj⟩
theorem getD_app_left {α : Type} {l m : List α} {i : Nat} {d : α} (h : i < l.length) : (l ++ m).getD i d = l.getD i d := by
  simp [List.getD_eq_getElem?_getD, List.getElem?_append_left h]
theorem getD_app_right {α : Type} {l m : List α} {i : Nat} {d : α} (h : l.length ≤ i) : (l ++ m).getD i d = m.getD (i - l.length) d := by
  simp [List.getD_eq_getElem?_getD, List.getElem?_append_right h]
theorem RepTs.append {H : Hp} {ts us : List CT} {vs ws : List V} {ds es : List CD} (h : RepTs H ts vs ds) (k : RepTs H us ws es) : RepTs H (ts ++ us) (vs ++ ws) (ds ++ es) := by
  refine ⟨by simp [h.lv, k.lv], by simp [h.ld, k.ld], fun j hj => ?_⟩
  by_cases hlt : j < ts.length
  · rw [getD_app_left hlt, getD_app_left (by rw [h.lv]; exact hlt), getD_app_left (by rw [h.ld]; exact hlt)]
    exact h.at' j hlt
  · have hj' : j - ts.length < us.length := by simp at hj; omega
    rw [getD_app_right (by omega), getD_app_right (by rw [h.lv]; omega), getD_app_right (by rw [h.ld]; omega), h.lv, h.ld]
    exact k.at' _ hj'
theorem RepTs.one {H : Hp} {t : CT} {v : V} {d : CD} (h : RepT H t v d) : RepTs H [t] [v] [d] := by
  refine ⟨rfl, rfl, fun j hj => ?_⟩
  match j, hj with
  | 0, _ => exact h

structure Good (ρ : Loc) (H : Hp) (w : World) : Prop where
  rel : RelH ρ H w
  free : ∀ b, H.length ≤ b → ρ b = none
  noOwn : ∀ b, ¬ OwnAt H b

theorem Good.start {w : World} : Good (fun _ => none) [] w :=
  ⟨⟨fun b r o c h => by simp at h, fun b r o c cs own h => by simp at h, fun b1 b2 r o1 c1 o2 c2 cs1 cs2 own2 h => by simp at h, ⟨fun b r o c es _ h => by simp at h, fun b1 b2 r o1 c1 o2 c2 e1 e2 _ _ h => by simp at h⟩⟩, fun _ _ => rfl, fun b ⟨cs, h⟩ => by simp at h⟩

/-- a row that is there -/
theorem Good.row {ρ : Loc} {H : Hp} {w : World} (g : Good ρ H w) {r o cap : Nat} {C : Array Value} {el : TypeId} {fz : Nat × Nat} {cs : List V} (h1 : w.heap[r]? = some (.cells C el fz)) (h2 : o + cap ≤ C.size) (h3 : cs.length ≤ cap) (h4 : RowAt ρ cs C o) :
    ∃ ρ', HX H (H ++ [Blk.row cs false]) ∧ Good ρ' (H ++ [Blk.row cs false]) w ∧ (∀ b y, ρ b = some y → ρ' b = some y) ∧ ρ' H.length = some (r, o, cap) := by
  have hle := Loc.add_le (x := (r, o, cap)) (g.free H.length (Nat.le_refl _))
  have hat : (ρ.add H.length (r, o, cap)) H.length = some (r, o, cap) := by simp [Loc.add]
  have hback : ∀ b y, (ρ.add H.length (r, o, cap)) b = some y → (b = H.length ∧ y = (r, o, cap)) ∨ (b ≠ H.length ∧ ρ b = some y) := by
    intro b y hb
    unfold Loc.add at hb
    split at hb
    · rename_i e; exact Or.inl ⟨e, (Option.some.inj hb).symm⟩
    · rename_i e; exact Or.inr ⟨e, hb⟩
  have hget : ∀ b blk, (H ++ [Blk.row cs false])[b]? = some blk → b ≠ H.length → H[b]? = some blk := by
    intro b blk hb hne
    by_cases hlt : b < H.length
    · rwa [List.getElem?_append_left hlt] at hb
    · have := (List.getElem?_eq_some_iff.1 hb).1
      simp at this; omega
  have hnone : ∀ b, ¬ OwnAt (H ++ [Blk.row cs false]) b := by
    rintro b ⟨cs', hcs, ho⟩
    by_cases hb : b = H.length
    · subst hb
      rw [List.getElem?_concat_length] at hcs; cases hcs; cases ho
    · exact g.noOwn b ⟨cs', hget b _ hcs hb, ho⟩
  refine ⟨ρ.add H.length (r, o, cap), .push, ⟨⟨fun b r' o' c' hb => ?_, fun b r' o' c' cs' own hb hr => ?_, fun b1 b2 r' o1 c1 o2 c2 cs1 cs2 own2 _ _ hr1 _ => ?_, g.rel.mp.of (fun b x hx h => hget b _ h (fun e => by subst e; rw [List.getElem?_concat_length] at h; cases h; cases hx)) (fun b x hx h => by unfold Loc.add; rw [if_neg (fun e => by subst e; rw [List.getElem?_concat_length] at h; cases h; cases hx)]) hle (fun _ _ _ _ _ _ _ _ _ => rfl)⟩, fun b hb => ?_, hnone⟩, hle, hat⟩
  · rcases hback b _ hb with ⟨_, e⟩ | ⟨_, e⟩
    · cases e; exact (Array.getElem?_eq_some_iff.1 h1).1
    · exact g.rel.dom b r' o' c' e
  · rcases hback b _ hb with ⟨rfl, e⟩ | ⟨hne, e⟩
    · cases e
      rw [List.getElem?_concat_length] at hr
      cases hr
      exact ⟨C, el, fz, h1, h2, h3, fun h => (by cases h), h4.mono hle⟩
    · obtain ⟨C', el', fz', a1, a2, a3, a4, a5⟩ := g.rel.row b r' o' c' cs' own e (hget b _ hr hne)
      exact ⟨C', el', fz', a1, a2, a3, a4, a5.mono hle⟩
  · exact absurd ⟨_, hr1, rfl⟩ (hnone b1)
  · unfold Loc.add
    rw [if_neg (by simp at hb; omega)]
    exact g.free b (by simp at hb; omega)

/-- cells that have a start -/
def Can (w : World) (ts : List CT) (xs : List Value) : Prop := ∀ ρ H, Good ρ H w →
  ∃ H' ρ' vs ds, HX H H' ∧ Good ρ' H' w ∧ (∀ b y, ρ b = some y → ρ' b = some y) ∧ VRs ρ' vs xs ∧ Scals vs ∧ RepTs H' ts vs ds

theorem Can.nil {w : World} : Can w [] [] := fun ρ H g => ⟨H, ρ, [], [], .refl, g, fun _ _ h => h, .nil, .nil, .nil⟩
theorem Can.append {w : World} {ts us : List CT} {xs ys : List Value} (h : Can w ts xs) (k : Can w us ys) : Can w (ts ++ us) (xs ++ ys) := by
  intro ρ H g
  obtain ⟨H1, ρ1, vs, ds, a1, a2, a3, a4, a5, a6⟩ := h ρ H g
  obtain ⟨H2, ρ2, ws, es, b1, b2, b3, b4, b5, b6⟩ := k ρ1 H1 a2
  exact ⟨H2, ρ2, vs ++ ws, ds ++ es, a1.trans b1, b2, fun b y hb => b3 b y (a3 b y hb), (a4.mono b3).append b4, a5.append b5, (a6.mono b1).append b6⟩

theorem Can.scal {w : World} {t : CT} {x : Value} {v : V} {d : CD} (h1 : ∀ ρ, VR ρ v x) (h2 : scal v = true) (h3 : ∀ H, RepT H t v d) : Can w [t] [x] := by
  intro ρ H g
  refine ⟨H, ρ, [v], [d], .refl, g, fun _ _ h => h, VRs.nil.cons (h1 ρ), ?_, .one (h3 H)⟩
  rw [Scals.mem]; intro u hu
  have : u = v := by simpa using hu
  subst this; exact h2

/-- a slice whose elements have a start -/
theorem Can.slice {w : World} {e : List CT} (he : 0 < e.length) {r o len cap : Nat} {C : Array Value} {el : TypeId} {fz : Nat × Nat} (h1 : w.heap[r]? = some (.cells C el fz)) (h2 : o + cap * e.length ≤ C.size) (h3 : len ≤ cap) (hmax : cap ≤ maxLen)
    (h4 : ∀ i, i < len → ∃ xs, Can w e xs ∧ xs.length = e.length ∧ ∀ j, j < e.length → C.getD (o + (i * e.length + j)) ux = xs.getD j ux) : Can w [.sl e] [.slice (some ⟨r, o, none⟩) len cap] := by
  have key : ∀ k, k ≤ len → ∀ ρ H, Good ρ H w → ∃ (H' : Hp) (ρ' : Loc) (cs : List V) (l : List (List CD)), HX H H' ∧ Good ρ' H' w ∧ (∀ b y, ρ b = some y → ρ' b = some y) ∧ cs.length = k * e.length ∧ l.length = k ∧ RowAt ρ' cs C o ∧
      (∀ i, i < k → (l.getD i ([] : List CD)).length = e.length) ∧ ∀ i j, i < k → j < e.length → RepT H' (e.getD j default) (cs.getD (i * e.length + j) dv) ((l.getD i []).getD j default) := by
    intro k
    induction k with
    | zero => exact fun _ ρ H g => ⟨H, ρ, [], [], .refl, g, fun _ _ h => h, by simp, rfl, fun i hi => by simp at hi, fun i hi => by omega, fun i j hi => by omega⟩
    | succ k ih =>
      intro hk ρ H g
      obtain ⟨H1, ρ1, cs, l, a1, a2, a3, a4, a5, a6, a7, a8⟩ := ih (by omega) ρ H g
      obtain ⟨xs, hcan, hxl, hxs⟩ := h4 k (by omega)
      obtain ⟨H2, ρ2, vs, ds, b1, b2, b3, b4, b5, b6⟩ := hcan ρ1 H1 a2
      have hvl : vs.length = e.length := b6.lv
      refine ⟨H2, ρ2, cs ++ vs, l ++ [ds], a1.trans b1, b2, fun b y hb => b3 b y (a3 b y hb), ?_, by simp [a5], ?_, ?_, ?_⟩
      · rw [List.length_append, a4, hvl, Nat.succ_mul]
      · intro i hi
        by_cases hlt : i < cs.length
        · rw [getD_app_left hlt]; exact (a6.mono b3) i hlt
        · rw [getD_app_right (by omega)]
          have hj : i - cs.length < vs.length := by rw [List.length_append] at hi; omega
          refine ⟨?_, b5 _ hj⟩
          have e1 : o + i = o + (k * e.length + (i - cs.length)) := by omega
          rw [e1, hxs _ (by omega)]
          exact b4.2 _ hj
      · intro i hi
        by_cases hlt : i < k
        · rw [getD_app_left (by omega)]; exact a7 i hlt
        · have : i = k := by omega
          subst this
          rw [getD_app_right (by omega), a5, Nat.sub_self]
          exact b6.ld
      · intro i j hi hj
        by_cases hlt : i < k
        · have hb : i * e.length + j < cs.length := by
            rw [a4]
            calc i * e.length + j < i * e.length + e.length := by omega
              _ = (i + 1) * e.length := (Nat.succ_mul _ _).symm
              _ ≤ k * e.length := Nat.mul_le_mul_right _ hlt
          rw [getD_app_left hb, getD_app_left (by omega)]
          exact (a8 i j hlt hj).mono b1
        · have : i = k := by omega
          subst this
          rw [getD_app_right (by omega), getD_app_right (by omega), a5, a4]
          have e1 : i * e.length + j - i * e.length = j := by omega
          rw [e1, Nat.sub_self]
          exact b6.at' j hj
  intro ρ H g
  by_cases h0 : len = 0
  · subst h0
    refine ⟨H, ρ, [.sempty], [.sl []], .refl, g, fun _ _ h => h, VRs.nil.cons .sempty, ?_, .one .empty⟩
    rw [Scals.mem]; intro u hu
    have : u = .sempty := by simpa using hu
    subst this; rfl
  obtain ⟨H1, ρ1, cs, l, a1, a2, a3, a4, a5, a6, a7, a8⟩ := key len (Nat.le_refl _) ρ H g
  obtain ⟨ρ2, c1, c2, c3, c4⟩ := a2.row (cap := cap * e.length) h1 h2 (by rw [a4]; exact Nat.mul_le_mul_right _ h3) a6
  refine ⟨_, ρ2, [.sl H1.length 0 len e.length], [.sl l], a1.trans c1, c2, fun b y hb => c3 b y (a3 b y hb), VRs.nil.cons ?_, ?_, .one ?_⟩
  · have := VR.sl (ρ := ρ2) (off := 0) (sz := e.length) (len := len) c4 h3 (by omega)
    simpa using this
  · rw [Scals.mem]; intro u hu
    have : u = .sl H1.length 0 len e.length := by simpa using hu
    subst this; rfl
  · subst a5
    exact .sl List.getElem?_concat_length a4 (by omega) a7 (fun i j hi hj => (a8 i j hi hj).mono c1)

/-! types -/
def fieldsOf (F : TypeId → Option (List CT)) (P : Program) : Nat → List Field → Option (List CT)
  | _, [] => some []
  | o, f :: fs => match F f.type with
    | some ts => if f.offset = o ∧ ts.length = P.cellsOf f.type then match fieldsOf F P (o + ts.length) fs with
        | some us => some (ts ++ us)
        | none => none
      else none
    | none => none
def ctsOf (P : Program) : Nat → TypeId → Option (List CT)
  | 0, _ => none
  | g + 1, t => match P.underlying t with
    | some .bool => some [.bool]
    | some (.int k) => some [.int k]
    | some .string => some [.str]
    | some (.slice e) => match ctsOf P g e with
      | some ts => if ts.length = P.cellsOf e ∧ 0 < ts.length then some [.sl ts] else none
      | none => none
    | some (.struct fs) => match fieldsOf (ctsOf P g) P 0 fs.toList with
      | some ts => if ts.length = P.cellsOf t then some ts else none
      | none => none
    | some (.array n e) => match ctsOf P g e with
      | some ts => if ts.length = P.cellsOf e ∧ n * ts.length = P.cellsOf t then some (List.replicate n ts).flatten else none
      | none => none
    | _ => none

section
variable {D : Type} {enc : TypeId × Value → D} {P : Program} {w : World}

theorem trod_array {t e : TypeId} {n fuel : Nat} {cs : List Value} {x : DataW D × List MemPlace} {base : Nat} {sp : Nat → Bool} {held : Bool} (ht : P.underlying t = some (.array n e)) (h : DataW.trod enc P w base sp held fuel t cs = some x) :
    ∃ m, fuel = m + 1 ∧ cs.length = P.cellsOf t ∧ ∀ i, i < n → ∃ y, DataW.trod enc P w base sp held m e ((cs.drop (i * P.cellsOf e)).take (P.cellsOf e)) = some y := by
  cases fuel with
  | zero => simp [DataW.trod] at h
  | succ m =>
    unfold DataW.trod at h
    rw [ht] at h
    split at h
    all_goals first
      | (rename_i heq; cases heq; done)
      | skip
    all_goals try (exfalso; simp_all; done)
    all_goals try (cases h; done)
    rename_i heq
    cases heq
    split at h
    case isFalse => cases h
    rename_i hl
    rw [Option.map_eq_some_iff] at h
    obtain ⟨xs, hp, _⟩ := h
    refine ⟨m, rfl, hl, ?_⟩
    intro i hi
    have e1 := mapM_some_get hp i i (by simp [hi])
    have e2 : xs.length = n := by simpa using mapM_some_length hp
    rw [e1]
    have hlt : i < xs.length := by omega
    exact ⟨xs[i], by simp [hlt]⟩

theorem cells?_get {base : Nat} {a : Addr} {n : Nat} {cs : List Value} (h : w.cells? base a n = some cs) : cs.length = n ∧ ∀ j, j < n → w.cell? (a.add j) = cs[j]? := by
  unfold World.cells? at h
  split at h
  · exact ⟨by simpa using mapM_some_length h, fun j hj => mapM_some_get h j j (by simp [hj])⟩
  · cases h

theorem canFields {F : TypeId → Option (List CT)} {cs : List Value} : ∀ (fs : List Field) (o : Nat) (ts : List CT), fieldsOf F P o fs = some ts → o + ts.length = cs.length →
    (∀ f ∈ fs, ∀ us, F f.type = some us → us.length = P.cellsOf f.type → Can w us ((cs.drop f.offset).take (P.cellsOf f.type))) → Can w ts (cs.drop o)
  | [], o, ts, h, hl, hc => by
    cases h
    have : cs.drop o = [] := by rw [List.drop_eq_nil_iff]; simp at hl; omega
    rw [this]; exact .nil
  | f :: fs, o, ts, h, hl, hc => by
    simp only [fieldsOf] at h
    split at h
    case h_2 => cases h
    rename_i us hus
    split at h
    case isFalse => cases h
    rename_i hoff
    split at h
    case h_2 => cases h
    rename_i vs hvs
    cases h
    have h1 := hc f (by simp) us hus hoff.2
    have h2 := canFields fs (o + us.length) vs hvs (by simp at hl; omega) (fun g hg => hc g (by simp [hg]))
    have e : cs.drop o = (cs.drop f.offset).take (P.cellsOf f.type) ++ cs.drop (o + us.length) := by
      rw [hoff.1, ← hoff.2, ← List.drop_drop, List.take_append_drop]
    rw [e]
    exact h1.append h2

theorem canArray {e : TypeId} {ts : List CT} (hts : ts.length = P.cellsOf e) {cs : List Value} : ∀ n, cs.length = n * ts.length → (∀ i, i < n → Can w ts ((cs.drop (i * P.cellsOf e)).take (P.cellsOf e))) → Can w (List.replicate n ts).flatten cs := by
  intro n
  induction n generalizing cs with
  | zero =>
    intro hl _
    have : cs = [] := List.eq_nil_of_length_eq_zero (by simpa using hl)
    subst this; exact .nil
  | succ n ih =>
    intro hl hc
    rw [List.replicate_succ, List.flatten_cons]
    have e1 : cs = cs.take ts.length ++ cs.drop ts.length := (List.take_append_drop _ _).symm
    rw [e1]
    refine Can.append ?_ (ih ?_ fun i hi => ?_)
    · have := hc 0 (by omega)
      simpa [← hts] using this
    · rw [List.length_drop, hl, Nat.succ_mul]; omega
    · have := hc (i + 1) (by omega)
      rw [List.drop_drop, ← hts]
      rw [← hts, Nat.succ_mul, Nat.add_comm] at this
      exact this

theorem can_of_trod : ∀ (g fuel : Nat) (t : TypeId) (cs : List Value) (x : DataW D × List MemPlace) (ts : List CT), DataW.trod enc P w 0 (fun _ => true) true fuel t cs = some x → ctsOf P g t = some ts → Can w ts cs
  | 0, fuel, t, cs, x, ts, h, hc => by cases hc
  | g + 1, fuel, t, cs, x, ts, h, hc => by
    simp only [ctsOf] at hc
    split at hc
    · rename_i ht
      obtain ⟨b, rfl, _⟩ := DataW.trod_bool ht h
      cases hc
      exact .scal (fun _ => .bool b) rfl (fun _ => .bool)
    · rename_i k ht
      obtain ⟨n, rfl, _, hw⟩ := DataW.trod_int ht h
      cases hc
      exact .scal (fun _ => .int k n) rfl (fun _ => .int hw)
    · rename_i ht
      obtain ⟨s, rfl, _, hs⟩ := DataW.trod_string ht h
      cases hc
      exact .scal (fun _ => .str s) rfl (fun _ => .str hs)
    · rename_i e ht
      split at hc
      case h_2 => cases hc
      rename_i us hus
      split at hc
      case isFalse => cases hc
      rename_i hsz
      cases hc
      rcases DataW.trod_slice ht h with ⟨rfl, _⟩ | ⟨a, len, cap, elems, rest, n, _, rfl, _, hb, hl, hcap, hel, hget, hrest, _⟩
      · exact .scal (fun _ => .snil) rfl (fun _ => .nil)
      · obtain ⟨hrl, hr⟩ := hrest rfl
        -- the cells of each element
        have cell : ∀ i, i < cap → ∃ xs y, w.cells? 0 (a.add (i * P.cellsOf e)) (P.cellsOf e) = some xs ∧ DataW.trod enc P w 0 (fun _ => true) true n e xs = some y := by
          intro i hi
          by_cases hil : i < len
          · have := hget i hil
            rw [List.getElem?_eq_getElem (by omega)] at this
            rw [Option.bind_eq_some_iff] at this
            obtain ⟨xs, k1, k2⟩ := this
            exact ⟨xs, _, k1, k2⟩
          · have := hr (i - len) (by omega)
            rw [List.getElem?_eq_getElem (by omega), show len + (i - len) = i by omega] at this
            rw [Option.bind_eq_some_iff] at this
            obtain ⟨xs, k1, k2⟩ := this
            exact ⟨xs, _, k1, k2⟩
        by_cases h0 : len = 0
        · subst h0
          intro ρ H G
          refine ⟨H, ρ, [.sempty], [.sl []], .refl, G, fun _ _ h => h, VRs.nil.cons .sempty, ?_, .one .empty⟩
          rw [Scals.mem]; intro u hu
          have : u = .sempty := by simpa using hu
          subst this; rfl
        obtain ⟨r, o, sp⟩ := a
        obtain ⟨xs0, _, q1, _⟩ := cell 0 (by omega)
        obtain ⟨l0, q2⟩ := cells?_get q1
        have q3 := q2 0 (by omega)
        have hsome : ∃ z, w.cell? ⟨r, o, sp⟩ = some z := by
          simp only [Nat.zero_mul, Addr.add, if_true] at q3
          rw [List.getElem?_eq_getElem (by omega)] at q3
          exact ⟨_, q3⟩
        obtain ⟨z, hz⟩ := hsome
        unfold World.cell? at hz
        split at hz
        case h_2 => cases hz
        rename_i C el fz hC
        split at hz
        · cases hz
        rename_i hsp
        have hsp' : sp = none := by cases sp <;> simp at hsp ⊢
        subst hsp'
        have plain : ∀ i, (⟨r, o, none⟩ : Addr).add i = ⟨r, o + i, none⟩ := by
          intro i; unfold Addr.add; split
          · rename_i h0; subst h0; rfl
          · rfl
        have plain2 : ∀ i j, ((⟨r, o, none⟩ : Addr).add i).add j = ⟨r, o + (i + j), none⟩ := by
          intro i j; rw [plain]; unfold Addr.add; split
          · rename_i h0; subst h0; rfl
          · simp [Nat.add_assoc]
        have cellAt : ∀ q, w.cell? ⟨r, q, none⟩ = C[q]? := by
          intro q; simp [World.cell?, hC]
        have each : ∀ i, i < cap → ∃ xs y, DataW.trod enc P w 0 (fun _ => true) true n e xs = some y ∧ xs.length = us.length ∧ ∀ j, j < us.length → C[o + (i * us.length + j)]? = xs[j]? := by
          intro i hi
          obtain ⟨xs, y, k1, k2⟩ := cell i hi
          obtain ⟨l1, k3⟩ := cells?_get k1
          refine ⟨xs, y, k2, by rw [l1, hsz.1], fun j hj => ?_⟩
          have := k3 j (by rw [← hsz.1]; exact hj)
          rw [plain2, cellAt, ← hsz.1] at this
          exact this
        refine Can.slice hsz.2 hC ?_ hl hcap fun i hi => ?_
        · obtain ⟨xs, _, _, l1, k1⟩ := each (cap - 1) (by omega)
          have := k1 (us.length - 1) (by omega)
          rw [List.getElem?_eq_getElem (by omega)] at this
          have hlt := (Array.getElem?_eq_some_iff.1 this).1
          have e1 : cap * us.length = (cap - 1) * us.length + us.length := by
            rw [← Nat.succ_mul]; congr 1; omega
          omega
        · obtain ⟨xs, y, k2, l1, k1⟩ := each i (by omega)
          refine ⟨xs, can_of_trod g n e xs y us k2 hus, l1, fun j hj => ?_⟩
          rw [Array.getD_eq_getD_getElem?, k1 j hj, List.getD_eq_getElem?_getD]
    · rename_i fs ht
      split at hc
      case h_2 => cases hc
      rename_i us hus
      split at hc
      case isFalse => cases hc
      rename_i hsz
      cases hc
      obtain ⟨xs, n, _, _, hl, hxl, hf⟩ := DataW.trod_struct ht h
      have := canFields (w := w) (cs := cs) fs.toList 0 ts hus (by rw [hl, ← hsz]; simp) fun f hfm vs hvs hvl => ?_
      · simpa using this
      · obtain ⟨i, hi, hfi⟩ := List.getElem_of_mem hfm
        have h1 := hf i f (by simp at hi; simp [← hfi, hi])
        rw [List.getElem?_eq_getElem (by rw [hxl]; simpa using hi)] at h1
        exact can_of_trod g n f.type _ _ vs h1 hvs
    · rename_i n e ht
      split at hc
      case h_2 => cases hc
      rename_i us hus
      split at hc
      case isFalse => cases hc
      rename_i hsz
      cases hc
      obtain ⟨m, _, hl, hi⟩ := trod_array ht h
      refine canArray hsz.1 n (by rw [hl, hsz.2]) fun i hin => ?_
      obtain ⟨y, hy⟩ := hi i hin
      exact can_of_trod g m e _ _ us hy hus
    · cases hc
end

/-! arguments -/
def argOf (P : Program) (g : Nat) (t : TypeId) : Option (Bool × List CT) :=
  match P.underlying t with
  | some (.struct _) | some (.array _ _) => match ctsOf P g t with
    | some ts => some (true, ts)
    | none => none
  | some .bool | some (.int _) | some .string | some (.slice _) => match ctsOf P g t with
    | some [t] => some (false, [t])
    | _ => none
  | _ => none

inductive RepA (H : Hp) : Bool × List CT → V → List CD → Prop
  | agg {ts : List CT} {vs : List V} {ds : List CD} : RepTs H ts vs ds → RepA H (true, ts) (.agg vs) ds
  | one {t : CT} {v : V} {d : CD} : RepT H t v d → RepA H (false, [t]) v [d]
theorem RepA.mono {H H' : Hp} (hx : HX H H') {a : Bool × List CT} {v : V} {d : List CD} (h : RepA H a v d) : RepA H' a v d := by
  cases h with
  | agg h => exact .agg (h.mono hx)
  | one h => exact .one (h.mono hx)
inductive RepAs (H : Hp) : List (Bool × List CT) → List V → List (List CD) → Prop
  | nil : RepAs H [] [] []
  | cons {a : Bool × List CT} {v : V} {d : List CD} {asL : List (Bool × List CT)} {vs : List V} {ds : List (List CD)} : RepA H a v d → RepAs H asL vs ds → RepAs H (a :: asL) (v :: vs) (d :: ds)

section
variable {D : Type} {enc : TypeId × Value → D} {P : Program} {w : World}

theorem cells_one {v : Value} (h : ∀ cs, v ≠ .agg cs) : v.cells = #[v] := by
  cases v <;> first | rfl | exact absurd rfl (h _)

theorem arg_in {base : Nat} {t : TypeId} {v : Value} {d : DataW D} {ps : List MemPlace} {g : Nat} {a : Bool × List CT} (hok : Value.okWide P w .any base t v) (hd : DataW.Trod enc P w 0 (fun _ => true) true t v d ps) (ha : argOf P g t = some a)
    (ρ : Loc) (H : Hp) (G : Good ρ H w) : ∃ H' ρ' u ds, HX H H' ∧ Good ρ' H' w ∧ (∀ b y, ρ b = some y → ρ' b = some y) ∧ VR ρ' u v ∧ RepA H' a u ds := by
  obtain ⟨fuel, hf⟩ := hd
  have aggCase : ∀ cs ts, v = .agg cs → ctsOf P g t = some ts → a = (true, ts) → ∃ H' ρ' u ds, HX H H' ∧ Good ρ' H' w ∧ (∀ b y, ρ b = some y → ρ' b = some y) ∧ VR ρ' u v ∧ RepA H' a u ds := by
    rintro cs ts rfl hts rfl
    obtain ⟨H', ρ', vs, ds, h1, h2, h3, h4, h5, h6⟩ := can_of_trod g fuel t _ _ ts hf hts ρ H G
    refine ⟨H', ρ', .agg vs, ds, h1, h2, h3, .agg (by simpa [Value.cells] using h4.1) (fun i hi => ?_) h5, .agg h6⟩
    have := h4.2 i hi
    simpa [Value.cells, List.getD_eq_getElem?_getD, Array.getD_eq_getD_getElem?] using this
  have oneCase : ∀ t', (∀ cs, v ≠ .agg cs) → ctsOf P g t = some [t'] → a = (false, [t']) → ∃ H' ρ' u ds, HX H H' ∧ Good ρ' H' w ∧ (∀ b y, ρ b = some y → ρ' b = some y) ∧ VR ρ' u v ∧ RepA H' a u ds := by
    rintro t' hv hts rfl
    rw [cells_one hv] at hf
    obtain ⟨H', ρ', vs, ds, h1, h2, h3, h4, h5, h6⟩ := can_of_trod g fuel t _ _ [t'] hf hts ρ H G
    obtain ⟨l1, l2, l3⟩ := h6
    match vs, ds, l1, l2 with
    | [u], [e], _, _ =>
      refine ⟨H', ρ', u, [e], h1, h2, h3, ?_, .one ?_⟩
      · exact h4.2 0 (by simp)
      · exact l3 0 (by simp)
  have notAgg : (P.underlying t = some .bool ∨ (∃ k, P.underlying t = some (.int k)) ∨ P.underlying t = some .string ∨ ∃ e, P.underlying t = some (.slice e)) → ∀ cs, v ≠ .agg cs := by
    rintro h cs rfl
    rcases h with h | ⟨k, h⟩ | h | ⟨e, h⟩ <;> simp [Value.okWide, Cell.okWide, Cell.ok, h] at hok
  unfold argOf at ha
  split at ha
  · rename_i ht
    split at ha
    case h_2 => cases ha
    rename_i ts hts
    simp only [Value.okWide, ht] at hok
    obtain ⟨cs, rfl, _, _⟩ := hok
    exact aggCase cs ts rfl hts (Option.some.inj ha).symm
  · rename_i ht
    split at ha
    case h_2 => cases ha
    rename_i ts hts
    simp only [Value.okWide, ht] at hok
    obtain ⟨cs, rfl, _, _⟩ := hok
    exact aggCase cs ts rfl hts (Option.some.inj ha).symm
  all_goals first
    | (cases ha; done)
    | (rename_i ht
       split at ha
       case h_2 => cases ha
       rename_i t' hts
       refine oneCase t' (notAgg ?_) hts (Option.some.inj ha).symm
       first | exact Or.inl ht | exact Or.inr (Or.inl ⟨_, ht⟩) | exact Or.inr (Or.inr (Or.inl ht)) | exact Or.inr (Or.inr (Or.inr ⟨_, ht⟩)))

theorem args_in {base g : Nat} : ∀ (ts : List TypeId) (vs : List Value) (ds : List (DataW D)) (ps : List MemPlace) (asL : List (Bool × List CT)), (∀ (j : Nat) (t : TypeId) (v : Value), ts[j]? = some t → vs[j]? = some v → Value.okWide P w .any base t v) →
    DataW.TrodAll enc P w 0 (fun _ => true) true ts vs ds ps → ts.map (argOf P g) = asL.map some → ∀ (ρ : Loc) (H : Hp), Good ρ H w →
    ∃ H' ρ' us dss, HX H H' ∧ Good ρ' H' w ∧ (∀ b y, ρ b = some y → ρ' b = some y) ∧ VRs ρ' us vs ∧ RepAs H' asL us dss
  | [], vs, ds, ps, asL, hok, h, ha, ρ, H, G => by
    obtain ⟨rfl, rfl, rfl⟩ : vs = [] ∧ ds = [] ∧ asL = [] := by
      cases vs <;> cases ds <;> simp_all [DataW.TrodAll]
    exact ⟨H, ρ, [], [], .refl, G, fun _ _ h => h, .nil, .nil⟩
  | t :: ts, vs, ds, ps, asL, hok, h, ha, ρ, H, G => by
    match vs, ds, asL, h, ha with
    | v :: vs, d :: ds, a :: asL, h, ha =>
      obtain ⟨p, q, h1, h2, _⟩ := h
      simp only [List.map_cons, List.cons.injEq] at ha
      obtain ⟨H1, ρ1, us, dss, a1, a2, a3, a4, a5⟩ := args_in ts vs ds q asL (fun j t v ht hv => hok (j + 1) t v (by simpa using ht) (by simpa using hv)) h2 ha.2 ρ H G
      obtain ⟨H2, ρ2, u, e, b1, b2, b3, b4, b5⟩ := arg_in (hok 0 t v rfl rfl) h1 ha.1 ρ1 H1 a2
      refine ⟨H2, ρ2, u :: us, e :: dss, a1.trans b1, b2, fun b y hb => b3 b y (a3 b y hb), (a4.mono b3).cons b4, .cons b5 ?_⟩
      clear a4 h1 h2 ha a2 b4 b5 b2 hok
      induction a5 with
      | nil => exact .nil
      | cons h _ ih => exact .cons (h.mono b1) ih

theorem trodAll_below {W W' : World} (hl : laidOutB P = true) : ∀ (ts : List TypeId) (vs : List Value) (ds : List (DataW D)) (ps : List MemPlace), DataW.TrodAll enc P W 0 (fun _ => true) true ts vs ds ps →
    (∀ t ∈ ts, P.readableRec t = true ∧ t < P.types.size) → Below W.heap.size W W' → (∀ x ∈ ps, x.block < W.heap.size) → DataW.TrodAll enc P W' 0 (fun b => decide (b < W.heap.size)) true ts vs ds ps
  | [], [], [], ps, h, _, _, _ => h
  | t :: ts, v :: vs, d :: ds, ps, h, ht, hb, hlt => by
    obtain ⟨p, q, h1, h2, rfl⟩ := h
    have e := ht t (by simp)
    exact ⟨p, q, Below.trod hl e.1 e.2 h1 hb (fun x hx => hlt x (by simp [hx])), trodAll_below hl ts vs ds q h2 (fun t' ht' => ht t' (by simp [ht'])) hb (fun x hx => hlt x (by simp [hx])), rfl⟩
end

/-- a law of the machine's is the row's -/
theorem lifted_of {C : Checked} {T : Tbl} {os : Os} {f : FuncId} {fn : Func} {s : ChangeSpec} {conds : List PathCond} {D : Type} {enc : TypeId × Value → D} {tb : TypeId} {cts : List (Bool × List CT)} {g : Nat}
    (own : ownKnob C.prog.godebug = none) (started : os.Started) (noInit : C.prog.inits.idxOf? f = none) (hfn : C.prog.funcs[f]? = some fn) (hT : TblOk C.prog T) (hl : laidOutB C.prog = true)
    (witness : ∃ (w : World) (tape : Tape) (i : Input), w.os = os ∧ (w.forCall tape i).Shaped C.prog ∧ i.vars = [] ∧ Input.okWide C.prog (w.forCall tape i) .any w.heap.size f i ∧
      s.pre6 enc C.prog fn conds false (w.forCall tape i).memory i.args ∧ ({} : Assume).holds C.prog (lone (Frame.enter C.prog f i.args .normal) [] (w.forCall tape i)))
    (hvars : s.vars = []) (hres : fn.resultTypes = #[tb]) (htb : C.prog.underlying tb = some .bool)
    (has : fn.params.toList.map (argOf C.prog g) = cts.map some) (hrd : ∀ t ∈ fn.params.toList, C.prog.readableRec t = true ∧ t < C.prog.types.size)
    (hs : ∀ ds : List (DataW D), ds.length = fn.params.size → s.fn D ds = { results := [.lit (.bool true)], args := ds })
    (law : ∀ (H : Hp) (us : List V) (dss : List (List CD)), RepAs H cts us dss → VCall T H.length f us H fun v _ => v = .bool true) (hgl : glMap = [] := by rfl) (hy : f ≠ yB := by decide) :
    ReturnsInHanded {} C os f .any (s.pre6 enc C.prog fn conds false) (s.post enc C.prog fn false true false false) := by
  refine returnsInHanded_of_change own started noInit hfn witness ?_
  intro W base args ds gs before hval hW hcnd _
  have hW' := hW
  obtain ⟨p, q, hA, hV, rfl, hfz, hnd⟩ := hW
  rw [hvars] at hV
  obtain ⟨rfl, rfl⟩ := trodVars_none hV
  obtain ⟨H, ρ, us, dss, _, G, _, hvr, hrep⟩ := args_in (g := g) fn.params.toList args.toList ds p cts (fun j t v ht hv => hval j t v (by simpa using ht) (by simpa using hv)) hA has _ _ Good.start
  have hlen : ds.length = fn.params.size := by
    have : ∀ (ts : List TypeId) (vs : List Value) (ds : List (DataW D)) (ps : List MemPlace), DataW.TrodAll enc C.prog W 0 (fun _ => true) true ts vs ds ps → ds.length = ts.length := by
      intro ts
      induction ts with
      | nil => intro vs ds ps h; cases vs <;> cases ds <;> simp_all [DataW.TrodAll]
      | cons t ts ih =>
        intro vs ds ps h
        match vs, ds, h with
        | v :: vs, d :: ds, ⟨_, _, _, h2, _⟩ => simp [ih _ _ _ h2]
    simpa using this _ _ _ _ hA
  have hsd := hs ds hlen
  have hlt : ∀ x ∈ p, x.block < W.heap.size := fun z hz => by simpa using hW'.lt z (by simpa using hz)
  refine (calls_of_vcall (lim := H.length) (Checked.mixed C) hT (law H us dss hrep) G.rel (GRel.none hgl) hvr G.free hy).mono ?_
  rintro e W' ⟨v', H', x', ρ', hk, rfl, hx, g', _⟩
  subst hk
  cases hx
  have hb : Below W.heap.size W W' := by
    refine ⟨g'.os, g'.tape, g'.output, g'.size, fun k hk => g'.keep k hk ?_ (fun _ _ => by simp)⟩
    rintro ⟨b, o, c, _, ho, _⟩
    exact G.noOwn b ho
  simp only [List.append_nil] at hW'
  refine ⟨_, rfl, ds, [], p, [], p, [], by simpa using hW', ?_, ?_, ?_, hb.frame _, fun h => by cases h⟩
  · rw [List.append_nil, hsd, hres]
    exact trodAll_mk1 (shut_bool htb _)
  · rw [List.append_nil, hsd]
    exact trodAll_below hl _ _ _ _ hA hrd hb hlt
  · rw [List.append_nil, hsd, hvars]
    rfl

end Go.Proofs.YtpdnbmnnkefedaaGreatDoor.Vm
