/- The start of the machine where the texts' variables are laid: the table of powers of ten, the two errors of strconv. -/
import Derived.Test.YtpdnbmnnkefedaaGreatDoorVmFlat
import Derived.Test.YtpdnbmnnkefedaaGreatDoorVmRec
import Derived.Test.YtpdnbmnnkefedaaGreatDoorRows
import Derived.Test.YtpdnbmnnkefedaaGreatDoorChecked
import Derived.Stop.LaidErr
import Derived.Lay
import Derived.KernelRfl
namespace Go.Proofs.YtpdnbmnnkefedaaGreatDoor.Vm
open Go Go.RowKit Go.ChangeShapes
set_option linter.unusedVariables false
set_option linter.unusedSimpArgs false
set_option maxRecDepth 100000
attribute [-simp] List.getD_eq_getElem?_getD
/-- an object that nobody looks into -/
theorem Good.obj {ρ : Loc} {w : World} {k : Nat} (G : Good ρ (glHp.take k) w) (hU : GUp ρ k) (hk : k < glMap.length) (he : glMap[k] = (none, [])) {r o : Nat} {C : Array Value} {el : TypeId} {fz : Nat × Nat} (h1 : w.heap[r]? = some (.cells C el fz)) (h2 : o ≤ C.size) :
    ∃ ρ', Good ρ' (glHp.take (k + 1)) w ∧ GUp ρ' (k + 1) ∧ (∀ b y, ρ b = some y → ρ' b = some y) ∧ ρ' k = some (r, o, 0) := by
  obtain ⟨ρ', _, a2, a3, a4⟩ := G.row (cap := 0) (cs := []) (o := o) h1 (by omega) (Nat.le_refl _) (fun i hi => by simp at hi)
  have hl : (glHp.take k).length = k := by rw [List.length_take, glHp_len]; omega
  have ht := glHp_take hk
  rw [he] at ht
  rw [← ht] at a2
  rw [hl] at a4
  refine ⟨ρ', a2, fun j g cs hj e => ?_, a3, a4⟩
  by_cases hjk : j = k
  · subst hjk
    rw [List.getElem?_eq_getElem hk, he] at e
    cases e
  · exact a3 _ _ (hU j g cs (by omega) e)
theorem var_heap {P : Program} {W : World} {name : String} {g : Nat} {cs : Array Value} (hg : P.globalNamed name = some g) (hv : W.var? P name = some cs) : ∃ el fz, W.heap[g]? = some (.cells cs el fz) := by
  simp only [World.var?, hg, Option.bind_some] at hv
  split at hv <;> simp_all
theorem cell_heap {W : World} {a : Addr} {v : Value} (h : W.cell? a = some v) : a = ⟨a.block, a.off, none⟩ ∧ ∃ C el fz, W.heap[a.block]? = some (.cells C el fz) ∧ a.off ≤ C.size := by
  unfold World.cell? at h
  split at h
  case h_2 => cases h
  rename_i C el fz hb
  split at h
  · cases h
  rename_i hs
  refine ⟨?_, C, el, fz, hb, Nat.le_of_lt (Array.getElem?_eq_some_iff.1 h).1⟩
  obtain ⟨b, o, s⟩ := a
  cases s with
  | none => rfl
  | some x => simp at hs
theorem row1_at {ρ : Loc} {t : TypeId} {b : Nat} {x : Value} (h : VR ρ (.ptr b 0) x) : RowAt ρ [.iface t (.ptr b 0)] #[.iface t x] 0 := by
  intro i hi
  have : i = 0 := by simp at hi; omega
  subst this
  exact ⟨.iface h, rfl⟩
def laidT : List (String × DataW Unit) := [("math/bits.deBruijn32tab", Rows.laid_math_bits_deBruijn32tab), ("math/bits.deBruijn64tab", Rows.laid_math_bits_deBruijn64tab), ("internal/strconv.uint64pow10", Rows.laid_internal_strconv_uint64pow10), ("unicode/utf8.acceptRanges", Rows.laid_unicode_utf8_acceptRanges), ("strconv.ErrRange", Rows.laid_strconv_ErrRange), ("strconv.ErrSyntax", Rows.laid_strconv_ErrSyntax), ("unicode/utf8.first", Rows.laid_unicode_utf8_first)]
theorem starE : "*" ++ "errors.errorString" = "*errors.errorString" := by decide
theorem rowE (u : TypeId) (h : Tryz.prog.typeName? 3 u = some "*errors.errorString") : u = 271 :=
  typeName_ptr_named (nm := "errors.errorString") (by rw [starE]; kernel_rfl) (by kernel_rfl) (by decide) u (by rw [starE]; exact h)
def pow10R : List V := (List.range 20).map fun i => .int .u64 (10 ^ i : Nat)
def firstR : List V := ((glMap.getD 5 (none, [])).2)
def accR : List V := ((glMap.getD 6 (none, [])).2)
theorem glMap_eq : glMap = [(some 5, pow10R), (none, []), (none, []), (some 1, [.iface 271 (.ptr 1 0)]), (some 2, [.iface 271 (.ptr 2 0)]), (some 3, firstR), (some 4, accR)] := by kernel_rfl
theorem tx_start {W : World} (h : laidMetH Tryz.prog laidT W) : ∃ ρ, Good ρ glHp W ∧ GRel ρ := by
  rw [MakeChecks.laidMetH_plain _ _ _ (by kernel_rfl)] at h
  have hgp : Tryz.prog.globalNamed "internal/strconv.uint64pow10" = some 5 := by kernel_rfl
  have hgR : Tryz.prog.globalNamed "strconv.ErrRange" = some 2 := by kernel_rfl
  have hgS : Tryz.prog.globalNamed "strconv.ErrSyntax" = some 1 := by kernel_rfl
  have h3 := laidMet.tail (laidMet.tail h)
  have h5 := laidMet.tail (laidMet.tail h3)
  have h6 := laidMet.tail h5
  have h4 := laidMet.tail h3
  have h7 := laidMet.tail h6
  have hgA : Tryz.prog.globalNamed "unicode/utf8.acceptRanges" = some 4 := by kernel_rfl
  have hgF : Tryz.prog.globalNamed "unicode/utf8.first" = some 3 := by kernel_rfl
  obtain ⟨psA, ⟨gA, tA, csA, fuelA, pA, qA, hgA', htA', hvA, htrA, _, _⟩, _⟩ := h4
  obtain rfl := Option.some.inj (hgA.symm.trans hgA')
  have eA : (Tryz.prog.globals[4]?).map (·.type) = some 258 := by kernel_rfl
  obtain rfl := Option.some.inj (eA.symm.trans htA')
  have hlA : leaf Tryz.prog 8 258 Rows.laid_unicode_utf8_acceptRanges 0 = some ((List.range accR.length).zip accR) := by kernel_rfl
  obtain ⟨elA, fzA, xA1, xA2, xA3⟩ := flat_var hgA hlA hvA htrA
  obtain ⟨psF, ⟨gF, tF, csF, fuelF, pF, qF, hgF', htF', hvF, htrF, _, _⟩, _⟩ := h7
  obtain rfl := Option.some.inj (hgF.symm.trans hgF')
  have eF : (Tryz.prog.globals[3]?).map (·.type) = some 255 := by kernel_rfl
  obtain rfl := Option.some.inj (eF.symm.trans htF')
  have hlF : leaf Tryz.prog 8 255 Rows.laid_unicode_utf8_first 0 = some ((List.range firstR.length).zip firstR) := by kernel_rfl
  obtain ⟨elF, fzF, xF1, xF2, xF3⟩ := flat_var hgF hlF hvF htrF
  obtain ⟨ps, ⟨g', t', cs, fuel, p, q, hg', ht', hv, htr, _, _⟩, _⟩ := h3
  obtain rfl := Option.some.inj (hgp.symm.trans hg')
  have eT : (Tryz.prog.globals[5]?).map (·.type) = some 275 := by kernel_rfl
  obtain rfl := Option.some.inj (eT.symm.trans ht')
  have hlf : leaf Tryz.prog 8 275 Rows.laid_internal_strconv_uint64pow10 0 = some ((List.range pow10R.length).zip pow10R) := by kernel_rfl
  obtain ⟨el1, fz1, a1, a2, a3⟩ := flat_var hgp hlf hv htr
  obtain ⟨aR, sR, vR, cR, _, _⟩ := laid_sentinel (tp := 271) (te := 273) (ts := 9) h5 hgR (ti := 151) (by kernel_rfl) Tryz.underlying151 rowE Tryz.underlying271 Tryz.underlying273 rfl rfl Tryz.underlying9 (by kernel_rfl) (by kernel_rfl)
  obtain ⟨aS, sS, vS, cS, _, _⟩ := laid_sentinel (tp := 271) (te := 273) (ts := 9) h6 hgS (ti := 151) (by kernel_rfl) Tryz.underlying151 rowE Tryz.underlying271 Tryz.underlying273 rfl rfl Tryz.underlying9 (by kernel_rfl) (by kernel_rfl)
  obtain ⟨elR, fzR, bR⟩ := var_heap hgR vR
  obtain ⟨elS, fzS, bS⟩ := var_heap hgS vS
  obtain ⟨eR, CR, tR, zR, oR, lR⟩ := cell_heap cR
  obtain ⟨eS, CS, tS, zS, oS, lS⟩ := cell_heap cS
  have hlen : glMap.length = 7 := by rw [glMap_eq]; rfl
  have e0 : glMap[0]'(by omega) = (some 5, pow10R) := by simp only [glMap_eq]; rfl
  have e1 : glMap[1]'(by omega) = (none, []) := by simp only [glMap_eq]; rfl
  have e2 : glMap[2]'(by omega) = (none, []) := by simp only [glMap_eq]; rfl
  have e3 : glMap[3]'(by omega) = (some 1, [.iface 271 (.ptr 1 0)]) := by simp only [glMap_eq]; rfl
  have e4 : glMap[4]'(by omega) = (some 2, [.iface 271 (.ptr 2 0)]) := by simp only [glMap_eq]; rfl
  have e5 : glMap[5]'(by omega) = (some 3, firstR) := by simp only [glMap_eq]; rfl
  have e6 : glMap[6]'(by omega) = (some 4, accR) := by simp only [glMap_eq]; rfl
  have G0 : Good (fun _ => none) (glHp.take 0) W := Good.start
  obtain ⟨ρ1, c1, u1, m1, _⟩ := Good.var G0 (fun k _ _ hk => absurd hk (by omega)) (k := 0) (by omega) a1 (by rw [e0]; exact a2) (by rw [e0]; exact a3 _) (fun g' e => by rw [e0] at e; exact (Option.some.inj e).symm)
  obtain ⟨ρ2, c2, u2, m2, q2⟩ := Good.obj c1 u1 (by omega) e1 oS lS
  obtain ⟨ρ3, c3, u3, m3, q3⟩ := Good.obj c2 u2 (by omega) e2 oR lR
  have vS2 : VR ρ3 (.ptr 1 0) (.pointer (some aS)) := by
    rw [eS]; exact .ptr (m3 _ _ q2)
  have vR2 : VR ρ3 (.ptr 2 0) (.pointer (some aR)) := by
    rw [eR]; exact .ptr q3
  obtain ⟨ρ4, c4, u4, m4, _⟩ := Good.var c3 u3 (k := 3) (by omega) bS (by rw [e3]; exact Nat.le_refl 1) (by rw [e3]; exact row1_at vS2) (fun g' e => by rw [e3] at e; exact (Option.some.inj e).symm)
  obtain ⟨ρ5, c5, u5, m5, _⟩ := Good.var c4 u4 (k := 4) (by omega) bR (by rw [e4]; exact Nat.le_refl 1) (by rw [e4]; exact row1_at (vR2.mono m4)) (fun g' e => by rw [e4] at e; exact (Option.some.inj e).symm)
  obtain ⟨ρ6, c6, u6, m6, _⟩ := Good.var c5 u5 (k := 5) (by omega) xF1 (by rw [e5]; exact xF2) (by rw [e5]; exact xF3 _) (fun g' e => by rw [e5] at e; exact (Option.some.inj e).symm)
  obtain ⟨ρ7, c7, u7, m7, _⟩ := Good.var c6 u6 (k := 6) (by omega) xA1 (by rw [e6]; exact xA2) (by rw [e6]; exact xA3 _) (fun g' e => by rw [e6] at e; exact (Option.some.inj e).symm)
  rw [show (6 + 1) = glMap.length by omega] at c7 u7
  exact Good.vars c7 u7
noncomputable def witT (os : Os) : World := World.laidAll Tryz.prog os laidT
theorem witT_met (os : Os) (args : Array Value) : laidMetH Tryz.prog laidT ((witT os).forCall (fun _ _ => 0) ⟨#[], args, []⟩).memory := by
  rw [MakeChecks.laidMetH_plain _ _ _ (by kernel_rfl)]
  exact laidMet_laidAll _ (by kernel_rfl) (by kernel_rfl)
theorem witT_shaped (os : Os) : (witT os).Shaped Tryz.prog := World.shaped_of_ZipB (by kernel_rfl) (by kernel_rfl)
end Go.Proofs.YtpdnbmnnkefedaaGreatDoor.Vm
