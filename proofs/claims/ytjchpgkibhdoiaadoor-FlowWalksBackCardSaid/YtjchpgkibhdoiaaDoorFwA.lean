/- Walks along paths, pure: what a path turns. -/
import Derived.Test.YtjchpgkibhdoiaaDoorFdA
namespace Go.Proofs.YtjchpgkibhdoiaaDoor.Vm
open Go
set_option maxRecDepth 100000
set_option linter.unusedSimpArgs false
set_option linter.unusedVariables false
attribute [-simp] List.getD_eq_getElem?_getD

def inPl (W Q : Int) (a : Pl) : Bool := decide (0 ≤ a.x ∧ a.x < W ∧ 0 ≤ a.y ∧ a.y < Q)
def inOk (W Q : Int) (l : List Pl) (i : Nat) : Bool := inPl W Q (l.getD i default)
/-- the edge and the sign of a step -/
def stE (a b : Pl) : Option (Ed × Int) :=
  if b.x - a.x = 1 ∧ b.y - a.y = 0 then some (⟨a.x, a.y, 0⟩, 1)
  else if b.x - a.x = 0 ∧ b.y - a.y = 1 then some (⟨a.x, a.y, 1⟩, 1)
  else if b.x - a.x = -1 ∧ b.y - a.y = 0 then some (⟨b.x, b.y, 0⟩, -1)
  else if b.x - a.x = 0 ∧ b.y - a.y = -1 then some (⟨b.x, b.y, 1⟩, -1)
  else none
def stP (w : Nat) (D : List Int) (P : List Ed) (a b : Pl) : Option Int := match stE a b with
  | some (e, s) => some (s * tnP w D P e.x e.y e.u)
  | none => none
/-- the sum of the steps to the places 1 .. n -/
def wkS (w : Nat) (D : List Int) (P : List Ed) (l : List Pl) : Nat → Option Int
  | 0 => some 0
  | n + 1 => match wkS w D P l n, stP w D P (l.getD n default) (l.getD (n + 1) default) with
    | some s, some t => some (s + t)
    | _, _ => none
def wkP (W Q : Int) (D : List Int) (P : List Ed) (l : List Pl) : Int × Int :=
  if validP W Q D P = 0 then
    if 1000 < l.length then (0, 4)
    else if allN (inOk W Q l) l.length = false then (0, 5)
    else match wkS W.toNat D P l (l.length - 1) with
      | some s => (s, 0)
      | none => (0, 1)
  else (0, validP W Q D P)
theorem stE_ed {w q : Nat} {a b : Pl} {e : Ed} {s : Int} (h : stE a b = some (e, s)) (ha : inPl w q a = true) (hb : inPl w q b = true) : isEB w q e.x e.y e.u = true ∧ (s = 1 ∨ s = -1) := by
  simp only [inPl, decide_eq_true_eq] at ha hb
  unfold stE at h
  repeat' (split at h)
  all_goals first
    | (cases h; done)
    | (simp only [Option.some.injEq, Prod.mk.injEq] at h
       obtain ⟨rfl, rfl⟩ := h
       refine ⟨?_, by omega⟩
       simp [isEB]
       omega)
theorem stP_bd {w : Nat} {D : List Int} {P : List Ed} {a b : Pl} {t : Int} (h : stP w D P a b = some t) : -4 ≤ t ∧ t ≤ 4 := by
  unfold stP at h
  split at h
  · rename_i e s he
    cases h
    have hb := tnP_bd (w := w) (D := D) (P := P) (x := e.x) (y := e.y) (u := e.u)
    have hs : s = 1 ∨ s = -1 := by
      unfold stE at he
      repeat' (split at he)
      all_goals first
        | (cases he; done)
        | (simp only [Option.some.injEq, Prod.mk.injEq] at he
           obtain ⟨_, rfl⟩ := he
           omega)
    rcases hs with rfl | rfl <;> omega
  · cases h
theorem wkS_bd {w : Nat} {D : List Int} {P : List Ed} {l : List Pl} : ∀ {n : Nat} {s : Int}, wkS w D P l n = some s → -4 * (n : Int) ≤ s ∧ s ≤ 4 * n
  | 0, s, h => by cases h; omega
  | n + 1, s, h => by
    simp only [wkS] at h
    split at h
    · rename_i s' t h1 h2
      cases h
      have a := wkS_bd h1
      have b := stP_bd h2
      omega
    · cases h
theorem wkS_none {w : Nat} {D : List Int} {P : List Ed} {l : List Pl} {n : Nat} (h : stP w D P (l.getD n default) (l.getD (n + 1) default) = none) : ∀ {m : Nat}, n < m → wkS w D P l m = none
  | 0, hm => by omega
  | m + 1, hm => by
    by_cases e : n = m
    · subst e; simp only [wkS, h]; cases wkS w D P l n <;> rfl
    · have := wkS_none h (m := m) (by omega)
      simp only [wkS, this]
end Go.Proofs.YtjchpgkibhdoiaaDoor.Vm
