/- Flat tables: what the data of a listed variable say of its cells. -/
import Derived.Test.YtpdnbmnnkefedaaGreatDoorVmDoor
import Derived.FnData
import Derived.ChangeArms
import Derived.MakeChecks
namespace Go.Proofs.YtpdnbmnnkefedaaGreatDoor.Vm
open Go Go.RowKit Go.ChangeShapes
set_option linter.unusedVariables false
set_option linter.unusedSimpArgs false
attribute [-simp] List.getD_eq_getElem?_getD
/-- the cells that data of a type fix: place, value -/
def leaf (P : Program) : Nat → TypeId → DataW Unit → Nat → Option (List (Nat × V))
  | 0, _, _, _ => none
  | n + 1, t, d, o => match P.underlying t, d with
    | some (.int k), .lit (.int _ m) => some [(o, .int k m)]
    | some (.struct fs), .agg ds => ((List.range ds.length).mapM fun i => match (fs[i]? : Option Field) with
        | some f => leaf P n f.type (ds.getD i .nil) (o + f.offset)
        | none => none).map List.flatten
    | some (.array _ e), .agg ds => ((List.range ds.length).mapM fun i => leaf P n e (ds.getD i .nil) (o + i * P.cellsOf e)).map List.flatten
    | _, _ => none
theorem leaf_ok {P : Program} {W : World} {held : Bool} : ∀ (n : Nat) (t : TypeId) (d : DataW Unit) (o : Nat) (l : List (Nat × V)), leaf P n t d o = some l →
    ∀ (fuel : Nat) (cs : List Value) (p : List MemPlace), DataW.trod (fun _ => ()) P W 0 (fun _ => true) held fuel t cs = some (d, p) → ∀ y, y ∈ l → ∃ j x, y.1 = o + j ∧ cs[j]? = some x ∧ (∀ ρ, VR ρ y.2 x) ∧ scal y.2 = true
  | 0, t, d, o, l, h, _, _, _, _, _, _ => by simp [leaf] at h
  | n + 1, t, d, o, l, h, fuel, cs, p, ht, y, hy => by
    simp only [leaf] at h
    split at h
    · rename_i k k' m hu
      cases h
      obtain ⟨m', e1, e2, _⟩ := DataW.trod_int hu ht
      simp only [List.mem_singleton] at hy
      subst hy
      simp only [Prod.mk.injEq, DataW.lit.injEq, Lit.int.injEq] at e2
      obtain ⟨⟨_, rfl⟩, _⟩ := e2
      subst e1
      exact ⟨0, _, rfl, rfl, fun ρ => .int _ _, rfl⟩
    · rename_i fs ds hu
      simp only [Option.map_eq_some_iff] at h
      obtain ⟨L, hL, rfl⟩ := h
      obtain ⟨xs, f0, _, hx, hcl, hxl, hel⟩ := DataW.trod_struct hu ht
      simp only [Prod.mk.injEq, DataW.agg.injEq] at hx
      obtain ⟨hds, _⟩ := hx
      obtain ⟨z, hz, hyz⟩ := List.mem_flatten.1 hy
      obtain ⟨i, hi, rfl⟩ := List.mem_iff_getElem.1 hz
      have hLl := mapM_some_length hL
      have hir : i < ds.length := by rw [List.length_range] at hLl; omega
      have hg := mapM_some_get hL i i (by simp [hir])
      rw [List.getElem?_eq_getElem hi] at hg
      split at hg
      case h_2 => cases hg
      rename_i f hf
      have hxi : i < xs.length := by rw [hds, List.length_map] at hir; exact hir
      have he := hel i f hf
      rw [List.getElem?_eq_getElem hxi] at he
      have hdi : ds.getD i .nil = (xs[i]).1 := by rw [hds, List.getD_eq_getElem?_getD, List.getElem?_map, List.getElem?_eq_getElem hxi]; rfl
      rw [hdi] at hg
      obtain ⟨j, x, a1, a2, a3, a4⟩ := leaf_ok n _ _ _ _ hg _ _ (xs[i]).2 he y hyz
      refine ⟨f.offset + j, x, by omega, ?_, a3, a4⟩
      rw [List.getElem?_take] at a2
      split at a2
      · rwa [List.getElem?_drop] at a2
      · cases a2
    · rename_i m e ds hu
      simp only [Option.map_eq_some_iff] at h
      obtain ⟨L, hL, rfl⟩ := h
      obtain ⟨xs, f0, _, hx, hcl, hxl, hel⟩ := DataW.trod_array hu ht
      simp only [Prod.mk.injEq, DataW.agg.injEq] at hx
      obtain ⟨hds, _⟩ := hx
      obtain ⟨z, hz, hyz⟩ := List.mem_flatten.1 hy
      obtain ⟨i, hi, rfl⟩ := List.mem_iff_getElem.1 hz
      have hLl := mapM_some_length hL
      have hir : i < ds.length := by rw [List.length_range] at hLl; omega
      have hg := mapM_some_get hL i i (by simp [hir])
      rw [List.getElem?_eq_getElem hi] at hg
      have hxi : i < xs.length := by rw [hds, List.length_map] at hir; exact hir
      have he := hel i (by omega)
      rw [List.getElem?_eq_getElem hxi] at he
      have hdi : ds.getD i .nil = (xs[i]).1 := by rw [hds, List.getD_eq_getElem?_getD, List.getElem?_map, List.getElem?_eq_getElem hxi]; rfl
      rw [hdi] at hg
      obtain ⟨j, x, a1, a2, a3, a4⟩ := leaf_ok n _ _ _ _ hg _ _ (xs[i]).2 he y hyz
      refine ⟨i * P.cellsOf e + j, x, by omega, ?_, a3, a4⟩
      rw [List.getElem?_take] at a2
      split at a2
      · rwa [List.getElem?_drop] at a2
      · cases a2
    · cases h
/-- what is listed of a flat table is its row -/
theorem flat_var {P : Program} {W : World} {held : Bool} {name : String} {d : DataW Unit} {g : Nat} {t : TypeId} {row : List V} {fl fuel : Nat} {cs : Array Value} {p : List MemPlace} (hg : P.globalNamed name = some g) (hl : leaf P fl t d 0 = some ((List.range row.length).zip row))
    (hv : W.var? P name = some cs) (ht : DataW.trod (fun _ => ()) P W 0 (fun _ => true) held fuel t cs.toList = some (d, p)) : ∃ el fz, W.heap[g]? = some (.cells cs el fz) ∧ row.length ≤ cs.size ∧ ∀ ρ, RowAt ρ row cs 0 := by
  have key : ∀ i, i < row.length → ∃ x, cs[i]? = some x ∧ (∀ ρ, VR ρ (row.getD i dv) x) ∧ scal (row.getD i dv) = true := fun i hi => by
    have hm : (i, row.getD i dv) ∈ (List.range row.length).zip row := by
      refine List.mem_iff_getElem?.2 ⟨i, ?_⟩
      rw [List.getElem?_zip_eq_some]
      refine ⟨by simp [hi], ?_⟩
      rw [List.getD_eq_getElem?_getD, List.getElem?_eq_getElem hi]; rfl
    obtain ⟨j, x, a1, a2, a3, a4⟩ := leaf_ok fl t d 0 _ hl _ _ p ht _ hm
    have : j = i := by simp only at a1; omega
    subst this
    exact ⟨x, by simpa using a2, a3, a4⟩
  have hh : ∃ el fz, W.heap[g]? = some (.cells cs el fz) := by
    simp only [World.var?, hg, Option.bind_some] at hv
    split at hv <;> simp_all
  obtain ⟨el, fz, hh⟩ := hh
  refine ⟨el, fz, hh, ?_, fun ρ i hi => ?_⟩
  · by_cases h0 : row.length = 0
    · omega
    · obtain ⟨x, hx, _⟩ := key (row.length - 1) (by omega)
      have := (Array.getElem?_eq_some_iff.1 hx).1
      omega
  · obtain ⟨x, hx, h1, h2⟩ := key i hi
    refine ⟨?_, h2⟩
    rw [Nat.zero_add, Array.getD_eq_getD_getElem?, hx]
    exact h1 ρ
/-- one flat table is all that is listed -/
theorem one_flat {P : Program} {W : World} {name : String} {d : DataW Unit} {g : Nat} {t : TypeId} {row : List V} {fl : Nat} (hm : glMap = [(some g, row)]) (hg : P.globalNamed name = some g) (htt : (P.globals[g]?).map (·.type) = some t) (hl : leaf P fl t d 0 = some ((List.range row.length).zip row))
    (hp : ([(name, d)].all fun x => x.2.handleName?.isNone) = true) (h : laidMetH P [(name, d)] W) : ∃ ρ, Good ρ glHp W ∧ GRel ρ := by
  rw [MakeChecks.laidMetH_plain _ _ _ hp] at h
  obtain ⟨ps, ⟨g', t', cs, fuel, p, q, hg', ht', hv, htr, _, _⟩, _⟩ := h
  obtain rfl := Option.some.inj (hg.symm.trans hg')
  obtain rfl := Option.some.inj (htt.symm.trans ht')
  obtain ⟨el, fz, h1, h2, h3⟩ := flat_var hg hl hv htr
  have hlen : glMap.length = 1 := by rw [hm]; rfl
  have e0 : glMap[0]'(by omega) = (some g, row) := by simp only [hm, List.getElem_cons_zero]
  have G0 : Good (fun _ => none) (glHp.take 0) W := Good.start
  obtain ⟨ρ', a1, a2, _, _⟩ := Good.var G0 (fun k _ _ hk => absurd hk (by omega)) (k := 0) (by omega) h1 (by rw [e0]; exact h2) (by rw [e0]; exact h3 _) (fun g' e => by rw [e0] at e; exact (Option.some.inj e).symm)
  rw [← hlen] at a1 a2
  exact Good.vars a1 a2
end Go.Proofs.YtpdnbmnnkefedaaGreatDoor.Vm
