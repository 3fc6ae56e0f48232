/- The two tables of unicode/utf8 are all that is listed: the machine's start. -/
import Derived.Test.YtalejadhccgckaaDoorVmFlat
import Derived.Test.YtalejadhccgckaaDoorVmRec
namespace Go.Proofs.YtalejadhccgckaaDoor.Vm
open Go Go.RowKit Go.ChangeShapes
set_option linter.unusedVariables false
set_option linter.unusedSimpArgs false
attribute [-simp] List.getD_eq_getElem?_getD
theorem two_flat {P : Program} {W : World} {n1 n2 : String} {d1 d2 : DataW Unit} {g1 g2 : Nat} {t1 t2 : TypeId} {row1 row2 : List V} {fl : Nat} (hm : glMap = [(some g2, row2), (some g1, row1)]) (hg1 : P.globalNamed n1 = some g1) (hg2 : P.globalNamed n2 = some g2)
    (ht1 : (P.globals[g1]?).map (·.type) = some t1) (ht2 : (P.globals[g2]?).map (·.type) = some t2) (hl1 : leaf P fl t1 d1 0 = some ((List.range row1.length).zip row1)) (hl2 : leaf P fl t2 d2 0 = some ((List.range row2.length).zip row2))
    (hp : ([(n1, d1), (n2, d2)].all fun x => x.2.handleName?.isNone) = true) (h : laidMetH P [(n1, d1), (n2, d2)] W) : ∃ ρ, Good ρ glHp W ∧ GRel ρ := by
  rw [MakeChecks.laidMetH_plain _ _ _ hp] at h
  obtain ⟨ps, ⟨g', t', cs, fuel, p, q, hg', ht', hv, htr, ⟨g'', t'', cs2, fuel2, p2, q2, hg'', ht'', hv2, htr2, _, _⟩, _⟩, _⟩ := h
  obtain rfl := Option.some.inj (hg1.symm.trans hg')
  obtain rfl := Option.some.inj (ht1.symm.trans ht')
  obtain rfl := Option.some.inj (hg2.symm.trans hg'')
  obtain rfl := Option.some.inj (ht2.symm.trans ht'')
  obtain ⟨el1, fz1, a1, a2, a3⟩ := flat_var hg1 hl1 hv htr
  obtain ⟨el2, fz2, b1, b2, b3⟩ := flat_var hg2 hl2 hv2 htr2
  have hlen : glMap.length = 2 := by rw [hm]; rfl
  have e0 : glMap[0]'(by omega) = (some g2, row2) := by simp only [hm, List.getElem_cons_zero]
  have e1 : glMap[1]'(by omega) = (some g1, row1) := by simp only [hm, List.getElem_cons_succ, List.getElem_cons_zero]
  have G0 : Good (fun _ => none) (glHp.take 0) W := Good.start
  obtain ⟨ρ1, c1, c2, _, _⟩ := Good.var G0 (fun k _ _ hk => absurd hk (by omega)) (k := 0) (by omega) b1 (by rw [e0]; exact b2) (by rw [e0]; exact b3 _) (fun g' e => by rw [e0] at e; exact (Option.some.inj e).symm)
  obtain ⟨ρ2, x1, x2, _, _⟩ := Good.var c1 c2 (k := 1) (by omega) a1 (by rw [e1]; exact a2) (by rw [e1]; exact a3 _) (fun g' e => by rw [e1] at e; exact (Option.some.inj e).symm)
  rw [show (1 + 1) = glMap.length by omega] at x1 x2
  exact Good.vars x1 x2
end Go.Proofs.YtalejadhccgckaaDoor.Vm
