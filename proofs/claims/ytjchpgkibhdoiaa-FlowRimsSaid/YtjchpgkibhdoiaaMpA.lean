/- Maps over the machine: lists of keys and values, with what is looked up, put, counted. -/
import Derived.Test.YtjchpgkibhdoiaaVmRec
namespace Go.Proofs.Ytjchpgkibhdoiaa.Vm
open Go
set_option maxRecDepth 100000
set_option linter.unusedSimpArgs false
set_option linter.unusedVariables false
attribute [-simp] List.getD_eq_getElem?_getD
/-- how keys stand -/
structure KeyE (α : Type) [DecidableEq α] where
  kv : α → V
  g : Bool
  ks : List CK
  agg : ∀ a, isAggV (kv a) = g
  eq : ∀ a b, eqCells ks (cellsV (kv a)) (cellsV (kv b)) = some (decide (a = b))
  st : ∀ a, stor (kv a) = true
section
variable {α β : Type} [DecidableEq α]
/-- the place and the value of a key -/
def lkI (a : α) : List (α × β) → Option (Nat × β)
  | [] => none
  | p :: r => if a = p.1 then some (0, p.2) else (lkI a r).map fun q => (q.1 + 1, q.2)
def look (a : α) (l : List (α × β)) : Option β := (lkI a l).map fun q => q.2
def putA (a : α) (u : β) (l : List (α × β)) : List (α × β) := match lkI a l with
  | some q => l.set q.1 (a, u)
  | none => l ++ [(a, u)]
theorem lkI_set {a : α} {u : β} : ∀ {l : List (α × β)} {i : Nat} {v : β}, lkI a l = some (i, v) → i < l.length ∧ lkI a (l.set i (a, u)) = some (i, u) ∧ ∀ b, b ≠ a → (lkI b (l.set i (a, u))) = lkI b l
  | [], i, v, h => by simp [lkI] at h
  | p :: l, i, v, h => by
    simp only [lkI] at h
    split at h
    · rename_i e
      cases h
      refine ⟨by simp, by simp [lkI], fun b hb => ?_⟩
      simp only [List.set_cons_zero, lkI]
      rw [if_neg hb, if_neg (by rw [← e]; exact hb)]
    · rename_i e
      cases hm : lkI a l with
      | none => rw [hm] at h; cases h
      | some q =>
        rw [hm] at h
        simp only [Option.map_some, Option.some.injEq, Prod.mk.injEq] at h
        obtain ⟨rfl, rfl⟩ := h
        obtain ⟨h1, h2, h3⟩ := lkI_set (u := u) (i := q.1) (v := q.2) hm
        refine ⟨by simp; exact h1, ?_, fun b hb => ?_⟩
        · simp only [List.set_cons_succ, lkI]
          rw [if_neg e, h2]; rfl
        · simp only [List.set_cons_succ, lkI, h3 b hb]
theorem lkI_push {a : α} {u : β} : ∀ {l : List (α × β)}, lkI a l = none → lkI a (l ++ [(a, u)]) = some (l.length, u) ∧ ∀ b, b ≠ a → lkI b (l ++ [(a, u)]) = lkI b l
  | [], _ => ⟨by simp [lkI], fun b hb => by simp [lkI, hb]⟩
  | p :: l, h => by
    simp only [lkI] at h
    split at h
    · cases h
    · rename_i e
      have hm : lkI a l = none := by
        cases hm : lkI a l with
        | none => rfl
        | some q => rw [hm] at h; cases h
      obtain ⟨h1, h2⟩ := lkI_push (u := u) hm
      refine ⟨?_, fun b hb => ?_⟩
      · simp only [List.cons_append, lkI]
        rw [if_neg e, h1]; rfl
      · simp only [List.cons_append, lkI, h2 b hb]
theorem look_put {a b : α} {u : β} {l : List (α × β)} : look b (putA a u l) = if b = a then some u else look b l := by
  unfold look putA
  cases hm : lkI a l with
  | none =>
    obtain ⟨h1, h2⟩ := lkI_push (u := u) hm
    by_cases e : b = a
    · subst e; rw [if_pos rfl]; simp only [h1]; rfl
    · rw [if_neg e]; simp only [h2 b e]
  | some q =>
    obtain ⟨_, h1, h2⟩ := lkI_set (u := u) (i := q.1) (v := q.2) hm
    by_cases e : b = a
    · subst e; rw [if_pos rfl]; simp only [h1]; rfl
    · rw [if_neg e]; simp only [h2 b e]
theorem look_nil {b : α} : look b ([] : List (α × β)) = none := rfl
/-- the map as the machine has it -/
def mE (K : KeyE α) (vc : β → V) (l : List (α × β)) : List (V × V) := l.map fun p => (K.kv p.1, vc p.2)
theorem mE_len {K : KeyE α} {vc : β → V} {l : List (α × β)} : (mE K vc l).length = l.length := by simp [mE]
theorem mE_set {K : KeyE α} {vc : β → V} {l : List (α × β)} {i : Nat} {a : α} {u : β} : (mE K vc l).set i (K.kv a, vc u) = mE K vc (l.set i (a, u)) := by simp [mE, List.map_set]
theorem mE_push {K : KeyE α} {vc : β → V} {l : List (α × β)} {a : α} {u : β} : mE K vc l ++ [(K.kv a, vc u)] = mE K vc (l ++ [(a, u)]) := by simp [mE]
theorem mE_nil {K : KeyE α} {vc : β → V} : mE K vc [] = [] := rfl
theorem mfindE {K : KeyE α} {vc : β → V} {a : α} : ∀ {l : List (α × β)}, mfind K.ks (K.kv a) (mE K vc l) = some ((lkI a l).map fun q => (q.1, vc q.2))
  | [] => rfl
  | p :: l => by
    have ih := mfindE (K := K) (vc := vc) (a := a) (l := l)
    have hc : mE K vc (p :: l) = (K.kv p.1, vc p.2) :: mE K vc l := rfl
    have hq : (if isAggV (K.kv a) == isAggV (K.kv p.1) then eqCells K.ks (cellsV (K.kv a)) (cellsV (K.kv p.1)) else none) = some (decide (a = p.1)) := by
      rw [K.agg, K.agg, K.eq]; simp
    rw [hc]
    simp only [mfind, lkI]
    rw [hq, ih]
    by_cases e : a = p.1
    · rw [if_pos e]; simp [e]
    · rw [if_neg e]
      simp only [e, decide_false]
      cases lkI a l <;> rfl
theorem keyOkE {K : KeyE α} {a : α} : keyOk K.g K.ks (K.kv a) = true := by
  unfold keyOk
  rw [K.agg, K.st, K.eq]; simp
section
variable {lim : Nat} {H : Hp} {K : KeyE α} {vc : β → V} {l : List (α × β)} {a : α} {u z : β} {b : Nat}
theorem vmgetE (hb : H[b]? = some (.map (mE K vc l))) : vmget K.g K.ks false (vc z) H (.mp b) (K.kv a) = some (vc ((look a l).getD z)) := by
  simp only [vmget, hb, keyOkE, if_true, mfindE, look]
  cases lkI a l <;> rfl
theorem vmputE (hb : H[b]? = some (.map (mE K vc l))) (hlim : lim ≤ b) (hu : stor (vc u) = true) : vmput lim K.g K.ks H (.mp b) (K.kv a) (vc u) = some (H.set b (.map (mE K vc (putA a u l)))) := by
  simp only [vmput, hlim, hb, keyOkE, hu, Bool.and_self, if_true, mfindE, putA]
  cases lkI a l with
  | none => simp only [Option.map_none, mE_push]
  | some q => simp only [Option.map_some, mE_set]
/-- where the entry of a key stands, and the map with it -/
def entI (a : α) (l : List (α × β)) : Nat := match lkI a l with
  | some q => q.1
  | none => l.length
theorem vmentE (hb : H[b]? = some (.map (mE K vc l))) (hlim : lim ≤ b) (hz : stor (vc z) = true) : vment lim K.g K.ks (vc z) H (.mp b) (K.kv a) = some (.tup [vc ((look a l).getD z), .int .i64 (entI a l)], H.set b (.map (mE K vc (putA a ((look a l).getD z) l)))) := by
  simp only [vment, hlim, hb, keyOkE, hz, Bool.and_self, if_true, mfindE, putA, look, entI]
  cases hq : lkI a l with
  | none => simp only [Option.map_none, Option.getD_none, mE_push, mE_len]
  | some q => simp only [Option.map_some, Option.getD_some, mE_set]
theorem entI_put {v : β} : (putA a v l).set (entI a l) (a, u) = putA a u l ∧ (putA a v l)[entI a l]? = some (a, v) := by
  unfold putA entI
  cases hq : lkI a l with
  | none =>
    exact ⟨by simp, by simp⟩
  | some q =>
    obtain ⟨h1, _, _⟩ := lkI_set (u := u) (i := q.1) (v := q.2) hq
    exact ⟨by simp, by simp [h1]⟩
theorem vmestE {v : β} (hlt : b < H.length) (hlim : lim ≤ b) (hu : stor (vc u) = true) : vmest lim (H.set b (.map (mE K vc (putA a v l)))) (.mp b) (.int .i64 (entI a l)) (vc u) = some (H.set b (.map (mE K vc (putA a u l)))) := by
  obtain ⟨e1, e2⟩ := entI_put (a := a) (l := l) (u := u) (v := v)
  have hg : (mE K vc (putA a v l))[entI a l]? = some (K.kv a, vc v) := by simp [mE, e2]
  have hb : (H.set b (.map (mE K vc (putA a v l))))[b]? = some (.map (mE K vc (putA a v l))) := List.getElem?_set_self hlt
  simp only [vmest, hlim, hb, hu, if_true, Int.toNat_natCast, hg, mE_set, e1, List.set_set]
  simp
end
end
/-- keys that are numbers; that are pairs, triples of numbers -/
def kI : KeyE Int := ⟨fun a => .int .i64 a, false, [.int .i64], fun _ => rfl, fun a b => by simp [eqCells, eqCell, cellsV]; by_cases e : a = b <;> simp [e], fun _ => rfl⟩
def kI2 : KeyE (Int × Int) := ⟨fun a => .agg [.int .i64 a.1, .int .i64 a.2], true, [.int .i64, .int .i64], fun _ => rfl, fun a b => by
  obtain ⟨a1, a2⟩ := a
  obtain ⟨b1, b2⟩ := b
  simp only [eqCells, eqCell, cellsV, and_self, if_true, Bool.and_true, Option.some.injEq]
  by_cases e : a1 = b1 <;> by_cases e2 : a2 = b2 <;> simp [e, e2], fun _ => rfl⟩
def kI3 : KeyE (Int × Int × Int) := ⟨fun a => .agg [.int .i64 a.1, .int .i64 a.2.1, .int .i64 a.2.2], true, [.int .i64, .int .i64, .int .i64], fun _ => rfl, fun a b => by
  obtain ⟨a1, a2, a3⟩ := a
  obtain ⟨b1, b2, b3⟩ := b
  simp only [eqCells, eqCell, cellsV, and_self, if_true, Bool.and_true, Option.some.injEq]
  by_cases e : a1 = b1 <;> by_cases e2 : a2 = b2 <;> by_cases e3 : a3 = b3 <;> simp [e, e2, e3], fun _ => rfl⟩
theorem HX.setBM {H H' : Hp} (hx : HX H H') {b : Nat} (hb : H.length ≤ b) {x : Blk} : HX H (H'.set b x) :=
  .of (by have := hx.len; simpa using this) fun i hi => by rw [List.getElem?_set_ne (by omega)]; exact hx.same hi
end Go.Proofs.Ytjchpgkibhdoiaa.Vm
