/- Package hair over the machine: Same, what the laws write, three laws. -/
import Derived.Test.YtgjlhdggllakbaaDoorHaE
namespace Go.Proofs.YtgjlhdggllakbaaDoor.Vm
open Go
set_option maxRecDepth 100000
set_option linter.unusedSimpArgs false
set_option linter.unusedVariables false
attribute [-simp] List.getD_eq_getElem?_getD

/-- kinds of cells that are all ints -/
def allI : List CK → Bool
  | [] => true
  | .int .i64 :: ks => allI ks
  | _ => false
theorem eqCells_ints : ∀ {ks : List CK} {a b : List Int}, allI ks = true → a.length = ks.length → b.length = ks.length → eqCells ks (ints a) (ints b) = some (decide (a = b))
  | [], a, b, hk, ha, hb => by
    have : a = [] := List.eq_nil_of_length_eq_zero ha
    have : b = [] := List.eq_nil_of_length_eq_zero hb
    subst_vars
    rfl
  | k :: ks, a, b, hk, ha, hb => by
    match a, b, k, ha, hb, hk with
    | x :: a, y :: b, .int .i64, ha, hb, hk =>
      have ih := eqCells_ints (ks := ks) (a := a) (b := b) hk (by simpa using ha) (by simpa using hb)
      simp only [ints] at ih
      simp only [ints, List.map_cons, eqCells, eqCell, and_self, if_true, ih]
      by_cases h1 : x = y <;> by_cases h2 : a = b <;> simp [h1, h2]
theorem veqA_48 {ks : List CK} {f g : HF} (hk : allI ks = true) (hl : ks.length = 48) : veqA false ks (.agg (ints (mk48 f))) (.agg (ints (mk48 g))) = some (.bool (decide (mk48 f = mk48 g))) := by
  simp only [veqA, eqCells_ints hk (mk48_len.trans hl.symm) (mk48_len.trans hl.symm)]; rfl
theorem veqA_50 {ks : List CK} {f g : HF} (hk : allI ks = true) (hl : ks.length = 50) : veqA false ks (.agg (ints (mk50 f))) (.agg (ints (mk50 g))) = some (.bool (decide (mk50 f = mk50 g))) := by
  simp only [veqA, eqCells_ints hk (mk50_len.trans hl.symm) (mk50_len.trans hl.symm)]; rfl
theorem mk48_inj {f g : HF} : mk48 f = mk48 g ↔ ∀ w n, w < 2 → 1 ≤ n → n ≤ 24 → f w n = g w n := by
  refine ⟨fun h w n hw h1 h2 => ?_, mk48_congr⟩
  have e : (mk48 f).getD (w * 24 + (n - 1)) 0 = (mk48 g).getD (w * 24 + (n - 1)) 0 := by rw [h]
  rw [mk48_at hw (by omega), mk48_at hw (by omega), show n - 1 + 1 = n by omega] at e
  exact e
theorem mk50_inj {f g : HF} : mk50 f = mk50 g ↔ ∀ w n, w < 2 → 1 ≤ n → n ≤ 24 → f w n = g w n := by
  refine ⟨fun h w n hw h1 h2 => ?_, mk50_congr⟩
  have e : (mk50 f).getD (w * 25 + n) 0 = (mk50 g).getD (w * 25 + n) 0 := by rw [h]
  rw [mk50_at hw h1 h2, mk50_at hw h1 h2] at e
  exact e

section
variable {lim : Nat} {H : Hp} {av bv : V} {r w r' w' : List Int} {K : V → Hp → Prop}

/-- the same hairs -/
def sameB (r w r' w' : List Int) : Bool := if er2 r w r' w' = 0 then decide (mk48 (op r w) = mk48 (op r' w')) else false

theorem hair_Same (ha : BunV H r w av) (hb : BunV H r' w' bv) (hlim : lim ≤ H.length) (hK : ∀ H', HX H H' → K (.tup [.bool (sameB r w r' w'), .int .i64 (er2 r w r' w')]) H') : VCall tbl lim 12 [av, bv] H K := by
  refine VCall_fn tbl_at12 rfl ?_
  simp [vf12, ha.stor.1, hb.stor.1, ha.load, hb.load]
  refine hair_openBoth ha hb hlim (fun he H1 x1 => ?_) fun he H1 x1 => ?_
  · simp [he]
    have := hK H1 x1
    simpa [sameB, he] using this
  · simp
    rw [veqA_48 ?hk ?hl]
    case hk => rfl
    case hl => rfl
    simp
    have := hK H1 x1
    simpa [sameB, he] using this

end

/-! writing into one's own lists -/
def Bel (m : Nat) (v : V) : Prop := ∀ b o k z, v = .sl b o k z → b < m
theorem listN_len24 {f : HF} {w : Nat} : (sideF f w).length ≤ 24 := by
  simp only [sideF, listN_length]; exact lastN_le _ _
theorem outP_len {f : HF} : (outP f).1.length ≤ 24 ∧ (outP f).2.1.length ≤ 24 := by
  simp only [outP, outR, outW]
  split
  · simp
  · exact ⟨listN_len24, listN_len24⟩
theorem trimP_len {r w : List Int} : (trimP r w).1.length ≤ 24 ∧ (trimP r w).2.1.length ≤ 24 := by
  unfold trimP; split
  · exact outP_len
  · simp [errP]
theorem mixP_len {r w r' w' : List Int} : (mixP r w r' w').1.length ≤ 24 ∧ (mixP r w r' w').2.1.length ≤ 24 := by
  unfold mixP; split
  · exact outP_len
  · simp [errP]
theorem drawP_len {r w : List Int} {n : Int} : (drawP r w n).1.length ≤ 24 ∧ (drawP r w n).2.1.length ≤ 24 ∧ (drawP r w n).2.2.1.length ≤ 24 ∧ (drawP r w n).2.2.2.1.length ≤ 24 := by
  unfold drawP; split
  · split
    · simp [errQ]
    · split
      · simp [errQ]
      · exact ⟨listN_len24, listN_len24, listN_len24, listN_len24⟩
  · simp [errQ]
theorem mixP_comm {r w r' w' : List Int} (h : (mixP r w r' w').2.2 = 0) : mixP r' w' r w = mixP r w r' w' := by
  unfold mixP at h ⊢
  by_cases e1 : errOf r w = 0 <;> by_cases e2 : errOf r' w' = 0 <;> simp_all [er2, errP]
  have : addF (op r' w') (op r w) = addF (op r w) (op r' w') := by funext a n; simp only [addF]; omega
  rw [this]
section
variable {lim : Nat} {H : Hp} {av bv : V} {r w r' w' : List Int} {K : V → Hp → Prop}
end
end Go.Proofs.YtgjlhdggllakbaaDoor.Vm
