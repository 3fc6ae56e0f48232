/- Numbers of a room under its lock, and the day book of one without orders, as contracts that leave everything as it was: Bought, Lost, Cash, Day. -/
import Derived.Test.YtpdnbmnnkefedaaGreatDoorVmPrimR
import Derived.Defers
import Derived.WalkKit
namespace Go.Proofs.YtpdnbmnnkefedaaGreatDoor.Vm
open Go Go.Shelf Go.RowKit Go.Conc.Locks
set_option maxRecDepth 100000
set_option linter.unusedSimpArgs false
set_option linter.unusedVariables false
/-- the lock taken and given back: the world as it was -/
theorem lock_back {w : World} {b o : Nat} {C : Array Value} {el : TypeId} {fz : Nat × Nat} (hg : w.heap[b]? = some (.cells C el fz)) (hc : w.cell? ⟨b, o, none⟩ = some (.int .i32 0)) :
    (w.setCell ⟨b, o, none⟩ (.int .i32 1)).setCell ⟨b, o, none⟩ (.int .i32 0) = w := by
  have hC : C[o]? = some (.int .i32 0) := by simpa [World.cell?, hg] using hc
  have e1 := setCell_eq_setRow w b o C el fz (.int .i32 1) hg
  have g2 : (w.setRow b (C.setIfInBounds o (.int .i32 1))).heap[b]? = some (.cells (C.setIfInBounds o (.int .i32 1)) el fz) := setRow_heap w b C _ el fz hg
  have e2 := setCell_eq_setRow _ b o _ el fz (.int .i32 0) g2
  rw [e1, e2, setRow_setRow]
  have : (C.setIfInBounds o (.int .i32 1)).setIfInBounds o (.int .i32 0) = C := by
    apply Array.ext (by simp)
    intro i h1 h2
    by_cases hi : o = i
    · subst hi
      have h3 : o < C.size := h2
      rw [Array.getElem?_eq_getElem h3] at hC
      simp only [Option.some.injEq] at hC
      rw [Array.getElem_setIfInBounds (by simpa using h3), if_pos rfl, hC]
    · rw [Array.getElem_setIfInBounds (by simpa using h2), if_neg hi, Array.getElem_setIfInBounds h2, if_neg hi]
  rw [this]
  exact setRow_self w b C el fz hg
def gGet (off : Nat) (args : List V) (H : Hp) : Option V := match args with
  | [.pnil] => some (.int .i64 0)
  | [.ptr b 0] => match H[b]? with
    | some (.row (.int .i32 0 :: cs) true) => match cs[off]? with
      | some (.int .i64 n) => some (.int .i64 n)
      | _ => none
    | _ => none
  | _ => none
def pGet (off : Nat) : PrimF := fun args H => match gGet off args H with
  | some v => some (v, [])
  | none => none
/-- a contract of this kind, by its two calls -/
theorem primOk_get {P : Program} {f : FuncId} {off : Nat} (hb : bodied P f = true)
    (h0 : ∀ w, Calls P f #[.pointer none] w fun e w' => e = .returned (.int .i64 0) ∧ w' = w)
    (h1 : ∀ (b o : Nat) (n : Int) (w : World), w.cell? ⟨b, o, none⟩ = some (.int .i32 0) → w.frozen? ⟨b, o, none⟩ = false → w.cell? ⟨b, o + (off + 1), none⟩ = some (.int .i64 n) →
      Calls P f #[.pointer (some ⟨b, o, none⟩)] w fun e w' => e = .returned (.int .i64 n) ∧ w' = (w.setCell ⟨b, o, none⟩ (.int .i32 1)).setCell ⟨b, o, none⟩ (.int .i32 0)) : PrimOk P f (pGet off) := by
  refine ⟨hb, fun lim args H v bs ρ w xs hg hH hG hx hf => ?_⟩
  unfold pGet at hg
  split at hg
  case h_2 => cases hg
  rename_i v' hv
  cases hg
  have fin : ∀ {x : Value}, VR ρ v x → (Calls P f xs w fun e w' => e = .returned x ∧ w' = w) → Calls P f xs w fun e w' => ∃ x ρ', e = .returned x ∧ VR ρ' v x ∧ Grow lim (fun _ => True) ρ (fun _ => none) [] H w ρ' (fun _ => none) [] (H ++ []) w' ∧ RelH ρ' (H ++ []) w' := fun hvx q => by
    refine q.mono fun e w' ⟨he, hw⟩ => ?_
    subst hw
    rw [List.append_nil]
    exact ⟨_, ρ, he, hvx, .of_below (Below.refl _ _), hH⟩
  unfold gGet at hv
  split at hv
  case h_3 => cases hv
  · cases hv
    obtain ⟨p, rfl, hp⟩ := vrs_one hx
    cases hp
    exact fin (.int _ _) (h0 w)
  · rename_i b
    split at hv
    case h_2 => cases hv
    rename_i cs hbr
    split at hv
    case h_2 => cases hv
    rename_i n hn
    cases hv
    obtain ⟨p, rfl, hp⟩ := vrs_one hx
    cases hp with
    | ptr hρ =>
      rename_i r o c
      have hnl := (List.getElem?_eq_some_iff.1 hn).1
      obtain ⟨y, k1, k2, k3⟩ := cell_own hH hbr (off := 0) (by simp) hρ
      obtain ⟨y2, m1, m2, m3⟩ := cell_own hH hbr (off := off + 1) (by simp; omega) hρ
      simp only [List.getD_cons_zero] at k2
      cases k2
      have e2 : (V.int .i32 0 :: cs).getD (off + 1) dv = .int .i64 n := by
        rw [List.getD_cons_succ, List.getD_eq_getElem?_getD, hn]; rfl
      rw [e2] at m2
      cases m2
      obtain ⟨C, el, fz, g1, _⟩ := hH.row b r o c _ true hρ hbr
      refine fin (.int _ _) ?_
      refine (h1 r (o + 0) n w k1 k3 (by simpa using m1)).mono fun e w' ⟨he, hw⟩ => ⟨he, ?_⟩
      rw [hw]
      exact lock_back g1 k1
theorem bought_nil (w : World) : Calls Tryz.prog 16 #[.pointer none] w fun e w' => e = .returned (.int .i64 0) ∧ w' = w := by
  go_enter_defers Tryz.func16, Tryz.ntmps16
  go_wp2
  exact ⟨_, results_tmp rfl _ _ _, rfl, rfl⟩
theorem bought_some (b o : Nat) (n : Int) (w : World) (h0 : w.cell? ⟨b, o, none⟩ = some (.int .i32 0)) (f0 : w.frozen? ⟨b, o, none⟩ = false) (h1 : w.cell? ⟨b, o + (4 + 1), none⟩ = some (.int .i64 n)) :
    Calls Tryz.prog 16 #[.pointer (some ⟨b, o, none⟩)] w fun e w' => e = .returned (.int .i64 n) ∧ w' = (w.setCell ⟨b, o, none⟩ (.int .i32 1)).setCell ⟨b, o, none⟩ (.int .i32 0) := by
  have hr := (World.cell?_setCell_other w ⟨b, o, none⟩ ⟨b, o + (4 + 1), none⟩ (.int .i32 1) (by simp)).trans h1
  go_enter_defers Tryz.func16, Tryz.ntmps16
  go_wp2_with (go_at_call 31; refine (Go.MuLone.lock_free Tryz.muLib ⟨b, o, none⟩ _ h0 f0).mono ?_; rintro e w' ⟨rfl, rfl⟩)
  refine leaves_cons (f := 32) (args := #[.pointer (some ⟨b, o, none⟩)]) (by simp) (by simp [go_sem]) ?_
  refine (Go.MuLone.unlock_deferred Tryz.muLib ⟨b, o, none⟩ .returning _ ?_ ?_).mono ?_
  · exact World.cell?_setCell_same w ⟨b, o, none⟩ (.int .i32 1) h0
  · simp [f0]
  rintro e u' w'' ⟨rfl, rfl, rfl⟩
  exact ⟨_, results_tmp rfl _ _ _, rfl, rfl⟩
def vf16 : VFn := ⟨1, [], .prim (pGet 4)⟩
theorem pok16 : PrimOk Tryz.prog 16 (pGet 4) := primOk_get (by kernel_rfl) bought_nil fun b o n w h0 f0 h1 => bought_some b o n w h0 f0 h1
theorem lost_nil (w : World) : Calls Tryz.prog 17 #[.pointer none] w fun e w' => e = .returned (.int .i64 0) ∧ w' = w := by
  go_enter_defers Tryz.func17, Tryz.ntmps17
  go_wp2
  exact ⟨_, results_tmp rfl _ _ _, rfl, rfl⟩
theorem lost_some (b o : Nat) (n : Int) (w : World) (h0 : w.cell? ⟨b, o, none⟩ = some (.int .i32 0)) (f0 : w.frozen? ⟨b, o, none⟩ = false) (h1 : w.cell? ⟨b, o + (5 + 1), none⟩ = some (.int .i64 n)) :
    Calls Tryz.prog 17 #[.pointer (some ⟨b, o, none⟩)] w fun e w' => e = .returned (.int .i64 n) ∧ w' = (w.setCell ⟨b, o, none⟩ (.int .i32 1)).setCell ⟨b, o, none⟩ (.int .i32 0) := by
  have hr := (World.cell?_setCell_other w ⟨b, o, none⟩ ⟨b, o + (5 + 1), none⟩ (.int .i32 1) (by simp)).trans h1
  go_enter_defers Tryz.func17, Tryz.ntmps17
  go_wp2_with (go_at_call 31; refine (Go.MuLone.lock_free Tryz.muLib ⟨b, o, none⟩ _ h0 f0).mono ?_; rintro e w' ⟨rfl, rfl⟩)
  refine leaves_cons (f := 32) (args := #[.pointer (some ⟨b, o, none⟩)]) (by simp) (by simp [go_sem]) ?_
  refine (Go.MuLone.unlock_deferred Tryz.muLib ⟨b, o, none⟩ .returning _ ?_ ?_).mono ?_
  · exact World.cell?_setCell_same w ⟨b, o, none⟩ (.int .i32 1) h0
  · simp [f0]
  rintro e u' w'' ⟨rfl, rfl, rfl⟩
  exact ⟨_, results_tmp rfl _ _ _, rfl, rfl⟩
def vf17 : VFn := ⟨1, [], .prim (pGet 5)⟩
theorem pok17 : PrimOk Tryz.prog 17 (pGet 5) := primOk_get (by kernel_rfl) lost_nil fun b o n w h0 f0 h1 => lost_some b o n w h0 f0 h1
theorem cash_nil (w : World) : Calls Tryz.prog 18 #[.pointer none] w fun e w' => e = .returned (.int .i64 0) ∧ w' = w := by
  go_enter_defers Tryz.func18, Tryz.ntmps18
  go_wp2
  exact ⟨_, results_tmp rfl _ _ _, rfl, rfl⟩
theorem cash_some (b o : Nat) (n : Int) (w : World) (h0 : w.cell? ⟨b, o, none⟩ = some (.int .i32 0)) (f0 : w.frozen? ⟨b, o, none⟩ = false) (h1 : w.cell? ⟨b, o + (6 + 1), none⟩ = some (.int .i64 n)) :
    Calls Tryz.prog 18 #[.pointer (some ⟨b, o, none⟩)] w fun e w' => e = .returned (.int .i64 n) ∧ w' = (w.setCell ⟨b, o, none⟩ (.int .i32 1)).setCell ⟨b, o, none⟩ (.int .i32 0) := by
  have hr := (World.cell?_setCell_other w ⟨b, o, none⟩ ⟨b, o + (6 + 1), none⟩ (.int .i32 1) (by simp)).trans h1
  go_enter_defers Tryz.func18, Tryz.ntmps18
  go_wp2_with (go_at_call 31; refine (Go.MuLone.lock_free Tryz.muLib ⟨b, o, none⟩ _ h0 f0).mono ?_; rintro e w' ⟨rfl, rfl⟩)
  refine leaves_cons (f := 32) (args := #[.pointer (some ⟨b, o, none⟩)]) (by simp) (by simp [go_sem]) ?_
  refine (Go.MuLone.unlock_deferred Tryz.muLib ⟨b, o, none⟩ .returning _ ?_ ?_).mono ?_
  · exact World.cell?_setCell_same w ⟨b, o, none⟩ (.int .i32 1) h0
  · simp [f0]
  rintro e u' w'' ⟨rfl, rfl, rfl⟩
  exact ⟨_, results_tmp rfl _ _ _, rfl, rfl⟩
def vf18 : VFn := ⟨1, [], .prim (pGet 6)⟩
theorem pok18 : PrimOk Tryz.prog 18 (pGet 6) := primOk_get (by kernel_rfl) cash_nil fun b o n w h0 f0 h1 => cash_some b o n w h0 f0 h1
theorem day_nil (w : World) : Calls Tryz.prog 19 #[.pointer none] w fun e w' => e = .returned (.string ⟨#[]⟩) ∧ w' = w := by
  go_enter_defers Tryz.func19, Tryz.ntmps19
  go_wp2
  exact ⟨_, results_tmp rfl _ _ _, rfl, rfl⟩
theorem join_none (sep : ByteArray) (w : World) : Calls Tryz.prog 56 #[.slice none 0 0, .string sep] w fun e w' => e = .returned (.string ⟨#[]⟩) ∧ w' = w := by
  have q := Any.strings_Join_none Tryz.laysJoin Tryz.extraJ none 0 sep w
  rw [renJoin] at q
  exact q
theorem sday_none (b o : Nat) (w : World) (h1 : w.cell? ⟨b, o + 6, none⟩ = some (.slice none 0 0)) :
    Calls Tryz.prog 38 #[.pointer (some ⟨b, o, none⟩)] w fun e w' => e = .returned (.string ⟨#[]⟩) ∧ w' = w := by
  go_enter Tryz.func38, Tryz.ntmps38
  go_wp2_with (go_at_call 56; refine (join_none _ _).mono ?_; rintro e w' ⟨rfl, rfl⟩)
  go_ret
  exact ⟨rfl, rfl⟩
theorem day_some (b o : Nat) (w : World) (h0 : w.cell? ⟨b, o, none⟩ = some (.int .i32 0)) (f0 : w.frozen? ⟨b, o, none⟩ = false) (h1 : w.cell? ⟨b, o + (7 + 1), none⟩ = some (.slice none 0 0)) :
    Calls Tryz.prog 19 #[.pointer (some ⟨b, o, none⟩)] w fun e w' => e = .returned (.string ⟨#[]⟩) ∧ w' = (w.setCell ⟨b, o, none⟩ (.int .i32 1)).setCell ⟨b, o, none⟩ (.int .i32 0) := by
  have hr := (World.cell?_setCell_other w ⟨b, o, none⟩ ⟨b, o + (7 + 1), none⟩ (.int .i32 1) (by simp)).trans h1
  go_enter_defers Tryz.func19, Tryz.ntmps19
  go_wp2_with (go_at_call 31; refine (Go.MuLone.lock_free Tryz.muLib ⟨b, o, none⟩ _ h0 f0).mono ?_; rintro e w' ⟨rfl, rfl⟩)
  refine (sday_none b (o + 2) _ ?_).mono ?_
  · have := hr
    simpa [Nat.add_assoc] using this
  rintro e w' ⟨rfl, rfl⟩
  go_wp2
  refine leaves_cons (f := 32) (args := #[.pointer (some ⟨b, o, none⟩)]) (by simp) (by simp [go_sem]) ?_
  refine (Go.MuLone.unlock_deferred Tryz.muLib ⟨b, o, none⟩ .returning _ ?_ ?_).mono ?_
  · exact World.cell?_setCell_same w ⟨b, o, none⟩ (.int .i32 1) h0
  · simp [f0]
  rintro e u' w'' ⟨rfl, rfl, rfl⟩
  exact ⟨_, results_tmp rfl _ _ _, rfl, rfl⟩
def gDay (args : List V) (H : Hp) : Option V := match args with
  | [.pnil] => some (.str ⟨#[]⟩)
  | [.ptr b 0] => match H[b]? with
    | some (.row (.int .i32 0 :: cs) true) => match cs[7]? with
      | some V.snil => some (.str ⟨#[]⟩)
      | _ => none
    | _ => none
  | _ => none
def pDay : PrimF := fun args H => match gDay args H with
  | some v => some (v, [])
  | none => none
theorem pok_Day : PrimOk Tryz.prog 19 pDay := by
  refine ⟨by kernel_rfl, fun lim args H v bs ρ w xs hg hH hG hx hf => ?_⟩
  unfold pDay at hg
  split at hg
  case h_2 => cases hg
  rename_i v' hv
  cases hg
  have fin : ∀ {x : Value}, VR ρ v x → (Calls Tryz.prog 19 xs w fun e w' => e = .returned x ∧ w' = w) → Calls Tryz.prog 19 xs w fun e w' => ∃ x ρ', e = .returned x ∧ VR ρ' v x ∧ Grow lim (fun _ => True) ρ (fun _ => none) [] H w ρ' (fun _ => none) [] (H ++ []) w' ∧ RelH ρ' (H ++ []) w' := fun hvx q => by
    refine q.mono fun e w' ⟨he, hw⟩ => ?_
    subst hw
    rw [List.append_nil]
    exact ⟨_, ρ, he, hvx, .of_below (Below.refl _ _), hH⟩
  unfold gDay at hv
  split at hv
  case h_3 => cases hv
  · cases hv
    obtain ⟨p, rfl, hp⟩ := vrs_one hx
    cases hp
    exact fin (.str _) (day_nil w)
  · rename_i b
    split at hv
    case h_2 => cases hv
    rename_i cs hbr
    split at hv
    case h_2 => cases hv
    rename_i hn
    cases hv
    obtain ⟨p, rfl, hp⟩ := vrs_one hx
    cases hp with
    | ptr hρ =>
      rename_i r o c
      have hnl := (List.getElem?_eq_some_iff.1 hn).1
      obtain ⟨y, k1, k2, k3⟩ := cell_own hH hbr (off := 0) (by simp) hρ
      obtain ⟨y2, m1, m2, m3⟩ := cell_own hH hbr (off := 7 + 1) (by simp; omega) hρ
      simp only [List.getD_cons_zero] at k2
      cases k2
      have e2 : (V.int .i32 0 :: cs).getD (7 + 1) dv = .snil := by
        rw [List.getD_cons_succ, List.getD_eq_getElem?_getD, hn]; rfl
      rw [e2] at m2
      cases m2
      obtain ⟨C, el, fz, g1, _⟩ := hH.row b r o c _ true hρ hbr
      refine fin (.str _) ?_
      refine (day_some r (o + 0) w k1 k3 (by simpa using m1)).mono fun e w' ⟨he, hw⟩ => ⟨he, ?_⟩
      rw [hw]
      exact lock_back g1 k1
def vf19 : VFn := ⟨1, [], .prim pDay⟩
theorem pok19 : PrimOk Tryz.prog 19 pDay := pok_Day
end Go.Proofs.YtpdnbmnnkefedaaGreatDoor.Vm
