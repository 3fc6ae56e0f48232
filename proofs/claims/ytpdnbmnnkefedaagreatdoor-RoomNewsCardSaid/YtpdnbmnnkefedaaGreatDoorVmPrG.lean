/- Contracts whose result is a new row of simple values, or an error value whose object nobody looks into. -/
import Derived.Test.YtpdnbmnnkefedaaGreatDoorVmRules
namespace Go.Proofs.YtpdnbmnnkefedaaGreatDoor.Vm
open Go
set_option linter.unusedVariables false
set_option linter.unusedSimpArgs false

/-- a contract that makes one new row of simple values -/
def rowP (chk : Hp → Bool) (g : List V → Option (List V)) : PrimF := fun args H => if chk H && args.all flatV then match g args with
  | some cs => if cs.all flatV then some (.sl H.length 0 cs.length 1, [.row cs true]) else none
  | none => none else none
theorem flat_scal {v : V} (h : flatV v = true) : scal v = true := by
  cases v <;> first | rfl | (simp [flatV] at h)
theorem flats_scal {cs : List V} (h : cs.all flatV = true) : Scals cs := by
  intro i hi
  rw [List.getD_eq_getElem?_getD, List.getElem?_eq_getElem hi]
  exact flat_scal (List.all_eq_true.1 h _ (List.getElem_mem hi))
theorem primOk_row {P : Program} {f : FuncId} {chk : Hp → Bool} {g : List V → Option (List V)} (hb : bodied P f = true)
    (h : ∀ (args : List V) (H : Hp) (cs : List V) (ρ : Loc) (w : World) (xs : Array Value), args.all flatV = true → g args = some cs → chk H = true → RelH ρ H w → GRel ρ → VRs ρ args xs.toList → Calls P f xs w fun e w' => e = .returned (.slice (some ⟨w.heap.size, 0, none⟩) cs.length cs.length) ∧ ∃ C el, w' = w.alloc (.cells C el) ∧ VRs ρ cs C.toList) : PrimOk P f (rowP chk g) := by
  refine ⟨hb, fun lim args H v bs ρ w xs hg hH hG hx hf => ?_⟩
  unfold rowP at hg
  split at hg
  case isFalse => cases hg
  rename_i hc
  simp only [Bool.and_eq_true] at hc
  split at hg
  case h_2 => cases hg
  rename_i cs hv
  split at hg
  case isFalse => cases hg
  rename_i hfl
  cases hg
  refine (h args H cs ρ w xs hc.2 hv hc.1 hH hG hx).mono ?_
  rintro e w' ⟨he, C, el, rfl, hvr⟩
  have hz : C.size = cs.length := by have := hvr.1; simp at this; omega
  have hfree : ρ H.length = none := hf _ (Nat.le_refl _) (by simp)
  obtain ⟨f1, f2, f3⟩ := alloc_facts3 w C el (0, 0)
  refine ⟨_, ρ.add H.length (w.heap.size, 0, cs.length), he, vr_newsl (Nat.le_refl _) (by omega), ⟨rfl, rfl, rfl, Nat.le_of_lt f1, by simp, Nat.le_refl _, fun b hb => ?_, fun _ _ => rfl, fun b r o c' h1 h2 hb => ?_, fun i r h1 h2 => absurd h2 (by omega), fun r hr _ _ => f2 r hr, ?_⟩, hH.push hfree f1 f2 f3 (by omega) (Nat.le_refl _) (RowAt.of_VRs hvr (flats_scal hfl)) FzOk.zero⟩
  · unfold Loc.add
    rw [if_neg]
    simp at hb; omega
  · have : b = H.length := by simp at h2; omega
    subst this
    unfold Loc.add at hb
    simp at hb
    left; omega
  · rintro b hb ⟨cs', hcs'⟩
    rw [List.getElem?_append_left hb] at hcs'
    exact ⟨cs', hcs'⟩
/-- a place that nobody looks into -/
theorem RelH.place {ρ : Loc} {H : Hp} {w : World} {N : Nat} (h : RelH ρ H w) (hfree : ρ H.length = none) (hN : N < w.heap.size) : RelH (ρ.add H.length (N, 0, 0)) (H ++ [.dead]) w := by
  have hle := Loc.add_le (x := (N, 0, 0)) hfree
  have hget : ∀ b blk, (H ++ [Blk.dead])[b]? = some blk → blk ≠ .dead → H[b]? = some blk ∧ b ≠ H.length := by
    intro b blk hb hne
    by_cases hlt : b < H.length
    · rw [List.getElem?_append_left hlt] at hb
      exact ⟨hb, by omega⟩
    · have h1 := (List.getElem?_eq_some_iff.1 hb).1
      have : b = H.length := by simp at h1; omega
      subst this
      rw [List.getElem?_concat_length] at hb
      exact absurd (Option.some.inj hb).symm hne
  have hback : ∀ b x, b ≠ H.length → (ρ.add H.length (N, 0, 0)) b = some x → ρ b = some x := by
    intro b x hne hb
    unfold Loc.add at hb
    rwa [if_neg hne] at hb
  refine ⟨fun b r o c hb => ?_, fun b r o c cs own hb hr => ?_, fun b1 b2 r o1 c1 o2 c2 cs1 cs2 own2 h1 h2 hr1 hr2 => ?_, h.mp.of (fun b x hx hb => ?_) (fun b x hx hb => ?_) hle fun _ _ _ _ _ _ _ _ _ => rfl⟩
  · by_cases e : b = H.length
    · subst e
      unfold Loc.add at hb
      simp at hb
      omega
    · exact h.dom b r o c (hback b _ e hb)
  · obtain ⟨a1, a2⟩ := hget b _ hr (by simp)
    obtain ⟨C, el, fz, g1, g2, g3, g4, g5⟩ := h.row b r o c cs own (hback b _ a2 hb) a1
    exact ⟨C, el, fz, g1, g2, g3, g4, g5.mono hle⟩
  · obtain ⟨a1, a2⟩ := hget b1 _ hr1 (by simp)
    obtain ⟨b1', b2'⟩ := hget b2 _ hr2 (by simp)
    exact h.inj b1 b2 r o1 c1 o2 c2 cs1 cs2 own2 (hback _ _ a2 h1) (hback _ _ b2' h2) a1 b1'
  · exact (hget b x hb (by rintro rfl; cases hx)).1
  · have := (hget b x hb (by rintro rfl; cases hx)).2
    unfold Loc.add
    rw [if_neg this]
/-- a contract that answers a number, and nil or an error of the type te -/
def numP (chk : Hp → Bool) (te : TypeId) (g : List V → Option (V × Bool)) : PrimF := fun args H => if chk H && args.all flatV then match g args with
  | some (v, ok) => if flatV v then if ok then some (.tup [v, .inil], []) else some (.tup [v, .iface te (.ptr H.length 0)], [.dead]) else none
  | none => none else none
theorem primOk_num {P : Program} {f : FuncId} {chk : Hp → Bool} {te : TypeId} {g : List V → Option (V × Bool)} (hb : bodied P f = true)
    (h : ∀ (args : List V) (H : Hp) (v : V) (ok : Bool) (ρ : Loc) (w : World) (xs : Array Value), args.all flatV = true → g args = some (v, ok) → chk H = true → RelH ρ H w → GRel ρ → VRs ρ args xs.toList → Calls P f xs w fun e w' => RowKit.Below w.heap.size w w' ∧ ∃ x, VR ρ v x ∧
      if ok then e = .returned (.tuple #[x, .nilIface]) else ∃ N, e = .returned (.tuple #[x, .iface te (.pointer (some ⟨N, 0, none⟩))]) ∧ w.heap.size ≤ N ∧ N < w'.heap.size) : PrimOk P f (numP chk te g) := by
  refine ⟨hb, fun lim args H v bs ρ w xs hg hH hG hx hf => ?_⟩
  unfold numP at hg
  split at hg
  case isFalse => cases hg
  rename_i hc
  simp only [Bool.and_eq_true] at hc
  split at hg
  case h_2 => cases hg
  rename_i v1 ok hv
  split at hg
  case isFalse => cases hg
  refine (h args H v1 ok ρ w xs hc.2 hv hc.1 hH hG hx).mono ?_
  rintro e w' ⟨hbl, x, hvx, he⟩
  cases ok with
  | true =>
    simp only [if_true] at hg he
    cases hg
    rw [List.append_nil]
    refine ⟨_, ρ, he, .tup rfl fun i hi => ?_, .of_below hbl, hH.keep hbl.size hbl.block⟩
    match i, hi with
    | 0, _ => exact hvx
    | 1, _ => exact .inil
  | false =>
    simp only [Bool.false_eq_true, if_false] at hg he
    cases hg
    obtain ⟨N, he, hN1, hN2⟩ := he
    have hfree : ρ H.length = none := hf _ (Nat.le_refl _) (by simp)
    have hle := Loc.add_le (x := (N, 0, 0)) hfree
    refine ⟨_, ρ.add H.length (N, 0, 0), he, .tup rfl (fun i hi => ?_), ⟨hbl.os, hbl.tape, hbl.output, hbl.size, by simp, Nat.le_refl _, fun b hb => ?_, fun _ _ => rfl, fun b r o c' h1 h2 hb => ?_, fun i r h1 h2 => absurd h2 (by omega), fun r hr _ _ => hbl.block r hr, ?_⟩, (hH.keep hbl.size hbl.block).place hfree hN2⟩
    · match i, hi with
      | 0, _ => exact hvx.mono hle
      | 1, _ => exact .iface vr_new
    · unfold Loc.add
      rw [if_neg]
      simp at hb; omega
    · have : b = H.length := by simp at h2; omega
      subst this
      unfold Loc.add at hb
      simp at hb
      left; omega
    · rintro b hb ⟨X, hX, hox⟩
      rw [List.getElem?_append_left hb] at hX
      exact ⟨X, hX, hox⟩
end Go.Proofs.YtpdnbmnnkefedaaGreatDoor.Vm
