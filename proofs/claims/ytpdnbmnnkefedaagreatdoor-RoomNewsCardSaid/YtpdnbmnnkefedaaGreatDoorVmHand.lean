/- Functions whose slim code is written by hand: the lock of one goroutine. -/
import Derived.Test.YtpdnbmnnkefedaaGreatDoorVmRules
import Derived.Conc.MuLone
namespace Go.Proofs.YtpdnbmnnkefedaaGreatDoor.Vm
open Go Go.Conc.Locks
set_option linter.unusedVariables false
set_option linter.unusedSimpArgs false

section
variable {P : Program} {ρ : Loc} {w : World} {H H' : Hp} {lim : Nat}
/-- one cell of a row of one's own: it is there, not frozen; a store into it is the machine's -/
theorem cell_own (hH : RelH ρ H w) {b off r o c : Nat} {cs : List V} (hb : H[b]? = some (.row cs true)) (hoff : off < cs.length) (hρ : ρ b = some (r, o, c)) :
    ∃ y, w.cell? ⟨r, o + off, none⟩ = some y ∧ VR ρ (cs.getD off dv) y ∧ w.frozen? ⟨r, o + off, none⟩ = false := by
  obtain ⟨C, el, fz, h1, h2, h3, h4, h5⟩ := hH.row b r o c cs true hρ hb
  have hlt : o + off < C.size := by omega
  refine ⟨C[o + off], ?_, ?_, ?_⟩
  · simp [World.cell?, h1, hlt]
  · have := (h5 off hoff).1
    rw [Array.getD_eq_getD_getElem?, Array.getElem?_eq_getElem hlt] at this
    exact this
  · have := h4 rfl (o + off) hlt
    simp only [World.frozen?, h1]
    simpa using this
theorem store_own (hH : RelH ρ H w) {b off r o c : Nat} {x : V} {y : Value} (hv : vstoreH lim H b off [x] = some H') (hρ : ρ b = some (r, o, c)) (hx : VR ρ x y) (hs : scal x = true) :
    Grow lim (fun _ => True) ρ (fun _ => none) [] H w ρ (fun _ => none) [] H' (w.setCell ⟨r, o + off, none⟩ y) ∧ RelH ρ H' (w.setCell ⟨r, o + off, none⟩ y) := by
  have hL : RelL (fun _ => True) ρ (fun _ => none) [] w := ⟨fun i r h => by simp at h, fun i j r h => by simp at h, fun id r b o c h => by simp at h, fun id r cs _ h => by simp at h⟩
  obtain ⟨w', h1, h2, h3, _⟩ := write_rel (P := default) (tg := fun _ => True) hH hL hv hρ (ys := [y]) ⟨rfl, fun i hi => by
    have : i = 0 := by simpa using hi
    subst this; exact hx⟩ (fun i hi => by
    have : i = 0 := by simpa using hi
    subst this; exact hs)
  have hb : ∃ cs, H[b]? = some (.row cs true) ∧ off < cs.length := by
    unfold vstoreH at hv
    split at hv
    case isFalse => cases hv
    split at hv
    case h_2 => cases hv
    rename_i cs hb
    split at hv
    case isFalse => cases hv
    rename_i hle
    exact ⟨cs, hb, by simp at hle; omega⟩
  obtain ⟨cs, hb, hoff⟩ := hb
  obtain ⟨y0, k1, k2, k3⟩ := cell_own hH hb hoff hρ
  have hone := hx.one hs
  have : w' = w.setCell ⟨r, o + off, none⟩ y := by
    simp [storeCells, Addr.add] at h1
    rw [run_store _ w _ _ _ hone] at h1
    simp [k1, k3] at h1
    exact h1.symm
  subst this
  exact ⟨h2, h3⟩
end
/-- a lock is taken, a lock is given back -/
def lockV (x y : Int) : VFn := ⟨1, [], .seq (.reg [⟨some 1, .load none (.t 0), none, []⟩, ⟨some 2, .bin .eql (.t 1) (.c (.int .i32 x)), none, []⟩]) (.cond (.t 2) (.reg [⟨none, .store 1 (.t 0) (.c (.int .i32 y)), none, []⟩]) .stuck)⟩
theorem lockV_run {call : CallFn} {n lim : Nat} {args : List V} {H : Hp} {v : V} {s : St} {e : VExit} {x y : Int} (hl : args.length = (lockV x y).nparams) (he : evCode call lim n (lockV x y).body ⟨fr0 args, [], H⟩ = some (e, s)) (hv : vres (lockV x y).results s.fr s.L s.H = some v) :
    ∃ b off cs, args = [.ptr b off] ∧ H[b]? = some (.row cs true) ∧ off < cs.length ∧ cs.getD off dv = .int .i32 x ∧ v = .tup [] ∧ vstoreH lim H b off [.int .i32 y] = some s.H := by
  match args, hl with
  | [p], _ =>
  obtain ⟨n, rfl⟩ : ∃ m, n = m + 2 := by
    rcases n with _ | _ | n
    · simp [evCode] at he
    · simp [evCode, lockV] at he
    · exact ⟨n, rfl⟩
  simp only [lockV, evCode, evOps, evStep, evVal, wanted, if_true, evOp, opd, fr0, List.getD_cons_zero, putD, upd] at he
  cases hq : vload none [] H p with
  | none => simp [hq, pureV] at he
  | some v1 =>
  simp only [hq, pureV] at he
  have e1 : upd (fr0 [p]) 1 v1 1 = v1 := by simp [upd]
  rw [e1] at he
  cases hw : vbin .eql v1 (.int .i32 x) with
  | none => simp [hw] at he
  | some v2 =>
  simp only [hw] at he
  have e2 : upd (upd (fr0 [p]) 1 v1) 2 v2 2 = v2 := by simp [upd]
  rw [e2] at he
  have hv1 : v1 = .int .i32 x ∧ v2 = .bool true ∨ v2 ≠ .bool true := by
    by_cases h2 : v2 = .bool true
    · left
      refine ⟨?_, h2⟩
      subst h2
      cases v1 <;> simp [vbin, isShift] at hw
      obtain ⟨rfl, h⟩ := hw
      simpa using h
    · exact Or.inr h2
  rcases hv1 with ⟨rfl, rfl⟩ | h2
  case inr =>
    exfalso
    split at he
    · exact absurd rfl h2
    · rcases n with _ | n <;> simp [evCode] at he
    · cases he
  have e3 : ∀ n, evCode call lim n (VCode.reg [⟨none, .store 1 (.t 0) (.c (.int .i32 y)), none, []⟩]) ⟨upd (upd (fr0 [p]) 1 (.int .i32 x)) 2 (.bool true), [], H⟩ = some (e, s) → ∃ b off, p = .ptr b off ∧ s.L = [] ∧ vstoreH lim H b off [.int .i32 y] = some s.H := by
    intro n hn
    rcases n with _ | n
    · simp [evCode] at hn
    have e4 : upd (upd (fr0 [p]) 1 (V.int .i32 x)) 2 (.bool true) 0 = p := by simp [upd, fr0]
    simp only [evCode, evOps, evStep, evVal, wanted, if_true, evOp, opd, e4, vstore, stor, cellsV, List.length_singleton] at hn
    cases p with
    | ptr b off =>
      simp only at hn
      cases hst : vstoreH lim H b off [.int .i32 y] with
      | none => simp [hst] at hn
      | some H1 =>
        simp [hst] at hn
        obtain ⟨_, rfl⟩ := hn
        exact ⟨b, off, rfl, rfl, hst⟩
    | _ => simp [vload] at hq
  obtain ⟨b, off, rfl, hL, hst⟩ := e3 _ he
  have hst' := hst
  unfold vstoreH at hst'
  split at hst'
  case isFalse => cases hst'
  split at hst'
  case h_2 => cases hst'
  rename_i cs hb
  split at hst'
  case isFalse => cases hst'
  rename_i hle
  simp [vload, hb, rd] at hq
  refine ⟨b, off, cs, rfl, hb, hq.1, ?_, ?_, hst⟩
  · rw [← hq.2, List.getD_eq_getElem?_getD]
  · simp [vres, resVs, lockV] at hv
    exact hv.symm
theorem vrs_one {ρ : Loc} {v : V} {xs : Array Value} (h : VRs ρ [v] xs.toList) : ∃ x, xs = #[x] ∧ VR ρ v x := by
  obtain ⟨l⟩ := xs
  obtain ⟨h1, h2⟩ := h
  match l, h1 with
  | [x], _ => exact ⟨x, rfl, h2 0 (by simp)⟩
theorem tup0_rel {ρ : Loc} : VR ρ (.tup []) (.tuple #[]) := .tup rfl fun i hi => absurd hi (by simp)
theorem lock_hand {P : Program} {f : FuncId} {x y : Int} (hb : bodied P f = true)
    (h : ∀ (a : Addr) (w : World), w.cell? a = some (.int .i32 x) → w.frozen? a = false → Calls P f #[.pointer (some a)] w fun e w' => e = .returned (.tuple #[]) ∧ w' = w.setCell a (.int .i32 y)) : HandOk P f (lockV x y) := by
  refine ⟨hb, fun call n lim args H v s e _ _ hl he _ hv ρ w xs hH hG hxs hfR => ?_⟩
  obtain ⟨b, off, cs, rfl, hbr, hoff, hcell, rfl, hst⟩ := lockV_run hl he hv
  obtain ⟨p, rfl, hp⟩ := vrs_one hxs
  cases hp with
  | ptr hρ =>
    rename_i r o c
    obtain ⟨y0, k1, k2, k3⟩ := cell_own hH hbr hoff hρ
    rw [hcell] at k2
    cases k2
    obtain ⟨g, r1⟩ := store_own hH hst hρ (.int .i32 y) rfl
    refine (h _ w k1 k3).mono ?_
    rintro e w' ⟨rfl, rfl⟩
    exact ⟨_, ρ, rfl, tup0_rel, g, r1⟩
theorem hok_lock {P : Program} {L : MuLink} (H : MuLib P L) (hb : bodied P L.lock = true) : HandOk P L.lock (lockV 0 1) := lock_hand hb fun a w h1 h2 => Go.MuLone.lock_free H a w h1 h2
theorem hok_unlock {P : Program} {L : MuLink} (H : MuLib P L) (hb : bodied P L.unlock = true) : HandOk P L.unlock (lockV 1 0) := lock_hand hb fun a w h1 h2 => Go.MuLone.unlock_held H a w h1 h2
end Go.Proofs.YtpdnbmnnkefedaaGreatDoor.Vm
