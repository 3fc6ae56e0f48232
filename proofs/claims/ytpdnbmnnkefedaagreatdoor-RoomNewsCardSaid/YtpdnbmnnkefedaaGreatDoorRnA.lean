/- The workroom: runs of the kernel that use given contracts; known(); a nil room. -/
import Derived.Test.YtpdnbmnnkefedaaGreatDoorVmTab
import Derived.Test.YtpdnbmnnkefedaaGreatDoorVmRec
import Derived.Test.YtpdnbmnnkefedaaGreatDoorVmMove
namespace Go.Proofs.YtpdnbmnnkefedaaGreatDoor.Vm
open Go
set_option maxRecDepth 100000
set_option linter.unusedSimpArgs false
set_option linter.unusedVariables false
attribute [-simp] List.getD_eq_getElem?_getD
theorem primSh_row {G : Hp} {chk : Hp → Bool} {g : List V → Option (List V)} (hc : ∀ H, chk (shH G H) = true) : PrimSh G (rowP (fun _ => true) g) (rowP chk g) := by
  intro args H v bs h
  unfold rowP at h ⊢
  split at h
  case isFalse => cases h
  rename_i hf
  simp only [Bool.true_and] at hf
  split at h
  case h_2 => cases h
  rename_i cs hv
  split at h
  case isFalse => cases h
  rename_i hfl
  cases h
  rw [flats_sh hf]
  have hl : (shH G H).length = H.length + G.length := by simp [shH]; omega
  simp [hc, hf, hv, hfl, sh, shB, flats_sh hfl, hl]
theorem primSh_num {G : Hp} {chk : Hp → Bool} {te : TypeId} {g : List V → Option (V × Bool)} (hc : ∀ H, chk (shH G H) = true) : PrimSh G (numP (fun _ => true) te g) (numP chk te g) := by
  intro args H v bs h
  unfold numP at h ⊢
  split at h
  case isFalse => cases h
  rename_i hf
  simp only [Bool.true_and] at hf
  split at h
  case h_2 => cases h
  rename_i v' ok hv
  split at h
  case isFalse => cases h
  rename_i hfl
  have hl : (shH G H).length = H.length + G.length := by simp [shH]; omega
  rw [flats_sh hf]
  cases ok
  · simp only [Bool.false_eq_true, if_false] at h
    cases h
    simp [hc, hf, hv, hfl, sh, shs, shB, flatV_sh hfl, hl]
  · simp only [if_true] at h
    cases h
    simp [hc, hf, hv, hfl, sh, shs, flatV_sh hfl]
theorem primSh_pure {G : Hp} {g : List V → Option V} : PrimSh G (flatP (fun _ => true) g) (fun args _ => match g args with | some v => some (v, []) | none => none) := by
  intro args H v bs h
  unfold flatP at h
  split at h
  case isFalse => cases h
  rename_i hf
  simp only [Bool.true_and] at hf
  split at h
  case h_2 => cases h
  rename_i v' hv
  split at h
  case isFalse => cases h
  rename_i hfl
  cases h
  simp only [flats_sh hf, hv, flatT_sh hfl, List.map_nil]
def gJoin0 : List V → Option V
  | [.snil, .str _] => some (.str ⟨#[]⟩)
  | _ => none
def pJoin0 : PrimF := fun args _ => match gJoin0 args with
  | some v => some (v, [])
  | none => none
theorem primSh_join {G : Hp} : PrimSh G pJoin0 pJoin := by
  intro args H v bs h
  unfold pJoin0 at h
  split at h
  case h_2 => cases h
  rename_i v' hv
  unfold gJoin0 at hv
  split at hv
  case h_2 => cases hv
  cases hv
  cases h
  simp [shs, sh, pJoin]
theorem primSh_get {G : Hp} {off : Nat} : PrimSh G (pGet off) (pGet off) := by
  intro args H v bs h
  unfold pGet at h
  split at h
  case h_2 => cases h
  rename_i v' hv
  cases h
  unfold gGet at hv
  split at hv
  case h_3 => cases hv
  · cases hv
    simp [pGet, gGet, shs, sh]
  · rename_i b
    split at hv
    case h_2 => cases hv
    rename_i cs hbr
    split at hv
    case h_2 => cases hv
    rename_i n hn
    cases hv
    have e1 : (shH G H)[b + G.length]? = some (.row (.int .i32 0 :: shs G.length cs) true) := by rw [shH_get, hbr]; simp [shB, shs, sh]
    have e2 : (shs G.length cs)[off]? = some (.int .i64 n) := by rw [shs_map, List.getElem?_map, hn]; rfl
    simp [pGet, gGet, shs, sh, e1, e2]
theorem primSh_day {G : Hp} : PrimSh G pDay pDay := by
  intro args H v bs h
  unfold pDay at h
  split at h
  case h_2 => cases h
  rename_i v' hv
  cases h
  unfold gDay at hv
  split at hv
  case h_3 => cases hv
  · cases hv
    simp [pDay, gDay, shs, sh]
  · rename_i b
    split at hv
    case h_2 => cases hv
    rename_i cs hbr
    split at hv
    case h_2 => cases hv
    rename_i hn
    cases hv
    have e1 : (shH G H)[b + G.length]? = some (.row (.int .i32 0 :: shs G.length cs) true) := by rw [shH_get, hbr]; simp [shB, shs, sh]
    have e2 : (shs G.length cs)[7]? = some .snil := by rw [shs_map, List.getElem?_map, hn]; rfl
    simp [pDay, gDay, shs, sh, e1, e2]
def qR : FuncId → Option PrimF := fun f => if f = 79 then some (rowP (fun _ => true) gSplit) else if f = 124 then some (numP (fun _ => true) teN gAtoi) else if f = 164 then some (flatP (fun _ => true) gTrim) else if f = 56 then some pJoin0 else if f = 154 then some (flatP (fun _ => true) gItoa) else if f = 16 then some (pGet 4) else if f = 17 then some (pGet 5) else if f = 18 then some (pGet 6) else if f = 19 then some pDay else none
theorem chkE_app {H X : Hp} (h : chkE H = true) : chkE (H ++ X) = true := by
  simp only [chkE, Bool.and_eq_true] at h ⊢
  have key : ∀ b, isErr H b = true → isErr (H ++ X) b = true := by
    intro b h
    unfold isErr at h ⊢
    split at h
    case h_2 => cases h
    rename_i hb
    rw [List.getElem?_append_left (List.getElem?_eq_some_iff.1 hb).1, hb]
  exact ⟨key _ h.1, key _ h.2⟩
theorem chkP_app {H X : Hp} (h : chkP H = true) : chkP (H ++ X) = true := by
  unfold chkP at h ⊢
  split at h
  case h_2 => cases h
  rename_i hb
  rw [List.getElem?_append_left (List.getElem?_eq_some_iff.1 hb).1, hb]
  exact h
theorem sh_qR {G : Hp} (hc : chkE G = true) (hp : chkP G = true) : ShT G (knT tbl qR) tbl := by
  refine ShT.kn fun f g0 hq vf hvf => ?_
  unfold qR at hq
  split at hq
  · rename_i e; subst e; cases hq
    rw [tbl_at79] at hvf; cases hvf
    exact ⟨_, rfl, primSh_row fun _ => rfl⟩
  · split at hq
    · rename_i e; subst e; cases hq
      rw [tbl_at124] at hvf; cases hvf
      exact ⟨_, rfl, primSh_num fun X => chkE_app hc⟩
    · split at hq
      · rename_i e; subst e; cases hq
        rw [tbl_at164] at hvf; cases hvf
        exact ⟨_, rfl, primSh_pure⟩
      · split at hq
        · rename_i e; subst e; cases hq
          rw [tbl_at56] at hvf; cases hvf
          exact ⟨_, rfl, primSh_join⟩
        · split at hq
          · rename_i e; subst e; cases hq
            rw [tbl_at154] at hvf; cases hvf
            exact ⟨_, rfl, primSh_flat fun X => chkP_app hp⟩
          · split at hq
            · rename_i e; subst e; cases hq
              rw [tbl_at16] at hvf; cases hvf
              exact ⟨_, rfl, primSh_get⟩
            · split at hq
              · rename_i e; subst e; cases hq
                rw [tbl_at17] at hvf; cases hvf
                exact ⟨_, rfl, primSh_get⟩
              · split at hq
                · rename_i e; subst e; cases hq
                  rw [tbl_at18] at hvf; cases hvf
                  exact ⟨_, rfl, primSh_get⟩
                · split at hq
                  · rename_i e; subst e; cases hq
                    rw [tbl_at19] at hvf; cases hvf
                    exact ⟨_, rfl, primSh_day⟩
                  · cases hq
def hpOf : Option (V × Hp) → Hp
  | some (_, H) => H
  | none => []
/-- a call that the kernel ran over a heap of its own, elsewhere -/
theorem vcall_ran {T0 T : Tbl} {n lim : Nat} {f : FuncId} {G H0 : Hp} {args : List V} {K : V → Hp → Prop} (hT : ShT G T0 T) (h : isTrue (evFn T0 n 0 f args H0) = true) (hlim : lim ≤ G.length) (hK : K (.bool true) (shH G (hpOf (evFn T0 n 0 f args H0)))) :
    VCall T lim f (shs G.length args) (shH G H0) K := by
  cases hr : evFn T0 n 0 f args H0 with
  | none => rw [hr] at h; cases h
  | some r =>
    obtain ⟨v, H1⟩ := r
    rw [hr] at h hK
    cases v <;> simp only [isTrue] at h <;> try (cases h; done)
    subst h
    have := evFn_sh (G := G) T hT n 0 lim f args H0 _ _ (by omega) hr
    exact ⟨n, .bool true, shH G H1, by simpa [sh] using this, hK⟩
end Go.Proofs.YtpdnbmnnkefedaaGreatDoor.Vm
