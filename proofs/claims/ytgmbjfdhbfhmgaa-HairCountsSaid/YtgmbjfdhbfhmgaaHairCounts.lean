/- Proved here: the given statement 'HairCountsSaid': whatever the bundle and the length, the law HairCounts returns true and leaves its arguments as they were. No conditions. -/
import Derived.Test.YtgmbjfdhbfhmgaaHairR
namespace Go.Proofs.Ytgmbjfdhbfhmgaa.hairCounts
open Go Go.Proofs.Ytgmbjfdhbfhmgaa.Vm
open Go.ChangeShapes Go.WideShapes Go.ChangeAt Go.RowKit
set_option linter.unusedVariables false
set_option maxRecDepth 100000
attribute [-simp] List.getD_eq_getElem?_getD

theorem own : ownKnob Try.prog.godebug = none := by kernel_rfl
theorem laidOut : laidOutB Try.prog = true := by kernel_rfl
theorem cells3 : Try.prog.cellsOf 3 = 1 := by kernel_rfl
theorem cells22 : Try.prog.cellsOf 22 = 1 := by kernel_rfl
theorem cells24 : Try.prog.cellsOf 24 = 2 := by kernel_rfl

/-- a slice of ints among the arguments -/
theorem slice_in {H : Type} {enc : TypeId × Value → H} {W : World} {fuel : Nat} {v : Value} {x : DataW H × List MemPlace} (h : DataW.trod enc Try.prog W 0 (fun _ => true) true fuel 22 [v] = some x) : ∃ l, SlIn W v l := by
  rcases open_ints Try.underlying22 Try.underlying3 cells3 h with ⟨h1, _⟩ | ⟨a, len, cap, zs, h1, _, hl, _, hz, _, hc, _⟩
  · simp at h1; subst h1; exact ⟨[], .nil⟩
  · simp at h1; subst h1
    exact ⟨_, slIn_of hl (by simpa using hz) hc⟩

/-- a bundle among the arguments -/
theorem bundle_in {H : Type} {enc : TypeId × Value → H} {W : World} {base : Nat} {v : Value} {d : DataW H} {p : List MemPlace} (hok : Value.okWide Try.prog W .any base 24 v) (h : DataW.Trod enc Try.prog W 0 (fun _ => true) true 24 v d p) :
    ∃ x y l m, v = .agg #[x, y] ∧ SlIn W x l ∧ SlIn W y m := by
  simp only [Value.okWide, Try.underlying24] at hok
  obtain ⟨cs, rfl, hsz, _⟩ := hok
  rw [cells24] at hsz
  obtain ⟨fuel, hf⟩ := h
  obtain ⟨y0, y1, n, _, _, g0, g1⟩ := trod_struct2 Try.underlying24 hf
  obtain ⟨ll⟩ := cs
  match ll, hsz with
  | [x, y], _ =>
    simp [Value.cells, cells22] at g0 g1
    obtain ⟨l, hl⟩ := slice_in g0
    obtain ⟨m, hm⟩ := slice_in g1
    exact ⟨x, y, l, m, rfl, hl, hm⟩

/-- WHAT THE ROW ASKS, of a law that leaves the memory that was there as it was, with new memory of whatever kind. -/
theorem post_below {H : Type} {enc : TypeId × Value → H} {P : Program} {f : Func} {s : ChangeSpec} {apart fresh handsOn : Bool} {W W' : World} {args : Array Value} {v : Value} {ds : List (DataW H)} {ps : List MemPlace}
    (hW : DataW.Whole enc P f.params.toList s.vars apart W args.toList ds [] ps) (hv : s.vars = []) (hb : Below W.heap.size W W')
    (hres : ∀ (b : Nat) (sp : Nat → Bool) (hd : Bool), DataW.TrodAll enc P W' b sp hd f.resultTypes.toList (v.resultList f.resultTypes.size) (s.fn H (ds ++ [])).results [])
    (hargs : DataW.TrodAll enc P W' 0 (fun b => decide (b < W.heap.size)) true f.params.toList args.toList (s.fn H (ds ++ [])).args ps)
    (hvars : DataW.TrodVars enc P W' (fun b => decide (b < W.heap.size)) [] (s.fn H (ds ++ [])).vars []) :
    s.post enc P f apart fresh handsOn false W args v W' :=
  ⟨ds, [], ps, [], ps, [], hW, hres _ _ _, hargs, by rw [hv]; exact hvars, hb.frame _, fun h => by cases h⟩

theorem int_range {n : Int} (h : (Lit.int .i64 n).wf = true) : -9223372036854775808 ≤ n ∧ n ≤ 9223372036854775807 := by
  simpa [Lit.wf, IntKind.min, IntKind.max, IntKind.signed, IntKind.bits] using h

set_option maxRecDepth 100000 in
theorem lifted (os : Os) (started : os.Started) (H : Type) (enc : TypeId × Value → H) :
    ReturnsInHanded {} Try.checked os 4 .any (Rows.hairCountsSpec.pre6 enc Try.prog Try.f4 Rows.hairCountsRow.domain false) (Rows.hairCountsSpec.post enc Try.prog Try.f4 false true false false) := by
  refine returnsInHanded_of_change (C := Try.checked) own started (by kernel_rfl) Try.func4
    (ChangeSpec.witness6 (enc := enc) (C := Try.checked) false ⟨#[], #[.agg #[.slice none 0 0, .slice none 0 0], .int .i64 0], []⟩ 8 (by kernel_rfl) (by kernel_rfl) (by kernel_rfl) (by kernel_rfl)) ?_
  intro W base args ds gs before hval0 hW hcnd _
  have hval : ∀ (j : Nat) t v, Try.f4.params[j]? = some t → args[j]? = some v → Value.okWide Try.prog W .any base t v := hval0
  have hW' := hW
  obtain ⟨p, q, hA0, hV, rfl, hfz, hnd⟩ := hW
  have hA : DataW.TrodAll enc Try.prog W 0 (fun _ => true) true Try.f4.params.toList args.toList ds p := hA0
  rw [Try.params4] at hA hval
  obtain ⟨v0, v1, d0, d1, p0, p1, rfl, rfl, rfl, h0, h1⟩ := trodAll_two hA
  obtain ⟨rfl, rfl⟩ := trodVars_none hV
  obtain ⟨x, y, l, m, rfl, hx, hy⟩ := bundle_in (hval 0 24 v0 rfl rfl) h0
  obtain ⟨n, rfl, rfl, rfl, wn⟩ := open_int Try.underlying3 (hval 1 3 v1 rfl rfl) h1
  clear hA0 hval0
  simp only [List.append_nil] at hW'
  have hlt : ∀ z ∈ p0, z.block < W.heap.size := fun z hz => by simpa using hW'.lt z (by simpa using hz)
  refine (hairCounts_walk hx hy (int_range wn)).mono fun e W' ⟨he, hb⟩ => ?_
  subst he
  exact ⟨_, rfl, post_below hW' rfl hb (fun _ _ _ => trodAll_mk1 (shut_bool Try.underlying4 _))
    (by
      have := trodAll_mk2 (Below.trod laidOut (by kernel_rfl) (of_decide_eq_true (by kernel_rfl)) h0 hb hlt) (shut_int (enc := enc) (w := W') (base := 0) (spare := fun b => decide (b < W.heap.size)) (held := true) Try.underlying3 wn)
      rw [List.append_nil] at this
      exact this) rfl⟩

theorem proved : Rows.HairCountsSaid :=
  OpenClaim.holds_of_wide 4 Try.f4 rfl rfl rfl rfl rfl rfl rfl ⟨rfl, rfl, rfl, rfl, rfl⟩ rfl rfl rfl rfl rfl (by kernel_rfl) Try.func4 (by kernel_rfl)
    (of_decide_eq_true (by kernel_rfl)) (by unfold Func.isWrapper; first | (rw [if_pos (by decide +kernel)]; kernel_rfl) | (rw [if_neg (by decide +kernel)]; exact ⟨rfl, rfl⟩))
    (fun os started H enc _ => lifted os started H enc)

end Go.Proofs.Ytgmbjfdhbfhmgaa.hairCounts
