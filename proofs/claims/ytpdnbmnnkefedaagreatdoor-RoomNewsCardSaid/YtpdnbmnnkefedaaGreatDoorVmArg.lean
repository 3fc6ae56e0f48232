/- Arguments, as lists of ints and the like. -/
import Derived.Test.YtpdnbmnnkefedaaGreatDoorVmLib
namespace Go.Proofs.YtpdnbmnnkefedaaGreatDoor.Vm
open Go
set_option linter.unusedVariables false
set_option linter.unusedSimpArgs false
attribute [-simp] List.getD_eq_getElem?_getD

abbrev cInt : CT := .int .i64
abbrev cInts : CT := .sl [.int .i64]

theorem wf_i64 {n : Int} (h : (Lit.int .i64 n).wf = true) : I64 n := by
  simpa [I64, Lit.wf, IntKind.min, IntKind.max, IntKind.signed, IntKind.bits] using h
theorem int_of {H : Hp} {v : V} {d : CD} (h : RepT H cInt v d) : ∃ n : Int, v = .int .i64 n ∧ I64 n := by
  cases h with
  | int hw => exact ⟨_, rfl, wf_i64 hw⟩
theorem bool_of {H : Hp} {v : V} {d : CD} (h : RepT H .bool v d) : ∃ b : Bool, v = .bool b := by
  cases h; exact ⟨_, rfl⟩
theorem str_of {H : Hp} {v : V} {d : CD} (h : RepT H .str v d) : ∃ s : ByteArray, v = .str s ∧ s.size ≤ maxLen := by
  cases h with
  | str hs => exact ⟨_, rfl, hs⟩

def toInt : V → Int
  | .int _ n => n
  | _ => 0
theorem ints_of {H : Hp} {v : V} {d : CD} (h : RepT H cInts v d) : ∃ l : List Int, SlV H v l ∧ l.length ≤ maxLen ∧ ∀ x ∈ l, I64 x := by
  cases h with
  | nil => exact ⟨[], .nil, by simp, by simp⟩
  | empty => exact ⟨[], .empty, by simp, by simp⟩
  | sl h1 h2 h3 h4 h5 =>
    rename_i b cs own l
    have h2 : cs.length = l.length := by simpa using h2
    have key : ∀ i, i < l.length → ∃ n, cs.getD i dv = .int .i64 n ∧ I64 n := by
      intro i hi
      have := h5 i 0 hi (by simp)
      simp only [List.length_singleton, Nat.mul_one, Nat.add_zero] at this
      exact int_of this
    have hcs : cs = ints (cs.map toInt) := by
      apply List.ext_getElem (by simp [ints])
      intro i h6 h7
      obtain ⟨n, e, _⟩ := key i (by omega)
      rw [List.getD_eq_getElem?_getD, List.getElem?_eq_getElem h6] at e
      simp only [Option.getD_some] at e
      simp [ints, e, toInt]
    refine ⟨cs.map toInt, ?_, by simp [h2]; exact h3, ?_⟩
    · have := SlV.sl (l := cs.map toInt) (off := 0) (H := H) h1 (by simp) (by rw [List.drop_zero, List.take_of_length_le (by simp)]; exact hcs)
      simpa [h2] using this
    · intro x hx
      obtain ⟨v, hv, rfl⟩ := List.mem_map.1 hx
      obtain ⟨i, hi, rfl⟩ := List.getElem_of_mem hv
      obtain ⟨n, e, hn⟩ := key i (by omega)
      rw [List.getD_eq_getElem?_getD, List.getElem?_eq_getElem hi] at e
      simp only [Option.getD_some] at e
      rw [e]; exact hn

/-! lists of cells, one by one -/
theorem reps_nil {H : Hp} {vs : List V} {ds : List CD} (h : RepTs H [] vs ds) : vs = [] := List.eq_nil_of_length_eq_zero h.lv
theorem reps_cons {H : Hp} {t : CT} {ts : List CT} {vs : List V} {ds : List CD} (h : RepTs H (t :: ts) vs ds) : ∃ v us d es, vs = v :: us ∧ ds = d :: es ∧ RepT H t v d ∧ RepTs H ts us es := by
  obtain ⟨l1, l2, l3⟩ := h
  match vs, ds, l1, l2 with
  | v :: us, d :: es, l1, l2 =>
    refine ⟨v, us, d, es, rfl, rfl, ?_, by simpa using l1, by simpa using l2, fun j hj => ?_⟩
    · exact l3 0 (by simp)
    · exact l3 (j + 1) (by simpa using hj)
theorem repas_nil {H : Hp} {us : List V} {dss : List (List CD)} (h : RepAs H [] us dss) : us = [] := by cases h; rfl
theorem repas_cons {H : Hp} {a : Bool × List CT} {asL : List (Bool × List CT)} {us : List V} {dss : List (List CD)} (h : RepAs H (a :: asL) us dss) : ∃ v vs d ds, us = v :: vs ∧ dss = d :: ds ∧ RepA H a v d ∧ RepAs H asL vs ds := by
  cases h with
  | cons h1 h2 => exact ⟨_, _, _, _, rfl, rfl, h1, h2⟩
theorem repa_one {H : Hp} {t : CT} {v : V} {ds : List CD} (h : RepA H (false, [t]) v ds) : ∃ d, RepT H t v d := by
  cases h with
  | one h => exact ⟨_, h⟩
theorem repa_agg {H : Hp} {ts : List CT} {v : V} {ds : List CD} (h : RepA H (true, ts) v ds) : ∃ vs, v = .agg vs ∧ RepTs H ts vs ds := by
  cases h with
  | agg h => exact ⟨_, rfl, h⟩
end Go.Proofs.YtpdnbmnnkefedaaGreatDoor.Vm
