/- Laws of programs with package-level variables that are laid: the machine's law is the row's. -/
import Derived.Test.YtpdnbmnnkefedaaGreatDoorVmRow
import Derived.JoinedCondRecord
import Derived.LaidLaws
namespace Go.Proofs.YtpdnbmnnkefedaaGreatDoor.Vm
open Go Go.RowKit Go.ChangeShapes
set_option linter.unusedVariables false
set_option linter.unusedSimpArgs false
attribute [-simp] List.getD_eq_getElem?_getD
/-- the first ones of the known variables stand at their places -/
def GUp (ρ : Loc) (n : Nat) : Prop := ∀ k g cs, k < n → glMap[k]? = some (some g, cs) → ρ k = some (g, 0, cs.length)
theorem GUp.all {ρ : Loc} (h : GUp ρ glMap.length) : GRel ρ := fun k g cs e => h k g cs (List.getElem?_eq_some_iff.1 e).1 e
theorem glHp_len : glHp.length = glMap.length := by simp [glHp]
theorem glHp_take {k : Nat} (h : k < glMap.length) : glHp.take (k + 1) = glHp.take k ++ [.row (glMap[k]).2 false] := by
  rw [List.take_add_one, List.getElem?_eq_getElem (by rw [glHp_len]; exact h)]
  simp [glHp]
/-- one variable more (or a row that one leads to: o, cap as it lies) -/
theorem Good.var {ρ : Loc} {w : World} {k : Nat} (G : Good ρ (glHp.take k) w) (hU : GUp ρ k) (hk : k < glMap.length) {r : Nat} {C : Array Value} {el : TypeId} {fz : Nat × Nat} (h1 : w.heap[r]? = some (.cells C el fz)) (h2 : (glMap[k]).2.length ≤ C.size) (h4 : RowAt ρ (glMap[k]).2 C 0)
    (hg : ∀ g, (glMap[k]).1 = some g → g = r) : ∃ ρ', Good ρ' (glHp.take (k + 1)) w ∧ GUp ρ' (k + 1) ∧ (∀ b y, ρ b = some y → ρ' b = some y) ∧ ρ' k = some (r, 0, (glMap[k]).2.length) := by
  obtain ⟨ρ', _, a2, a3, a4⟩ := G.row (cap := (glMap[k]).2.length) h1 (by omega) (Nat.le_refl _) h4
  have hl : (glHp.take k).length = k := by rw [List.length_take, glHp_len]; omega
  rw [← glHp_take hk] at a2
  rw [hl] at a4
  refine ⟨ρ', a2, fun j g cs hj e => ?_, a3, a4⟩
  by_cases hjk : j = k
  · subst hjk
    rw [List.getElem?_eq_getElem hk] at e
    have e := Option.some.inj e
    have e1 : (glMap[j]).1 = some g := by rw [e]
    have e2 : (glMap[j]).2 = cs := by rw [e]
    rw [← hg g e1] at a4
    rw [a4, e2]
  · exact a3 _ _ (hU j g cs (by omega) e)
theorem Good.vars {ρ : Loc} {w : World} (G : Good ρ (glHp.take glMap.length) w) (hU : GUp ρ glMap.length) : ∃ ρ, Good ρ glHp w ∧ GRel ρ := by
  rw [← glHp_len, List.take_length] at G
  exact ⟨ρ, G, hU.all⟩
/-- a law of the machine's is the row's, where package-level variables are laid -/
theorem lifted_door {C : Checked} {T : Tbl} {os : Os} {f : FuncId} {fn : Func} {s : ChangeSpec} {conds : List PathCond} {D : Type} {enc : TypeId × Value → D} {tb : TypeId} {cts : List (Bool × List CT)} {g : Nat} {X : World → Prop}
    (own : ownKnob C.prog.godebug = none) (started : os.Started) (noInit : C.prog.inits.idxOf? f = none) (hfn : C.prog.funcs[f]? = some fn) (hT : TblOk C.prog T) (hl : laidOutB C.prog = true)
    (witness : ∃ (w : World) (tape : Tape) (i : Input), w.os = os ∧ (w.forCall tape i).Shaped C.prog ∧ i.vars = [] ∧ Input.okWide C.prog (w.forCall tape i) .any w.heap.size f i ∧
      ((s.pre enc C.prog fn conds false (w.forCall tape i).memory i.args ∧ X (w.forCall tape i).memory) ∧ sizedMet enc C.prog fn (OpenSpec.ofChange s) false (w.forCall tape i).memory i.args) ∧ ({} : Assume).holds C.prog (lone (Frame.enter C.prog f i.args .normal) [] (w.forCall tape i)))
    (hXh : ∀ W W' : World, W.heap = W'.heap → X W → X W')
    (hvars : s.vars = []) (hres : fn.resultTypes = #[tb]) (htb : C.prog.underlying tb = some .bool)
    (has : fn.params.toList.map (argOf C.prog g) = cts.map some) (hrd : ∀ t ∈ fn.params.toList, C.prog.readableRec t = true ∧ t < C.prog.types.size)
    (hs : ∀ ds : List (DataW D), ds.length = fn.params.size → s.fn D ds = { results := [.lit (.bool true)], args := ds })
    (law : ∀ (H : Hp) (us : List V) (dss : List (List CD)), HX glHp H → RepAs H cts us dss → VCall T H.length f us H fun v _ => v = .bool true)
    (hst : ∀ W : World, X W → ∃ ρ, Good ρ glHp W ∧ GRel ρ) (hy : f ≠ yB := by decide) :
    ReturnsInHanded {} C os f .any (fun w args => (s.pre enc C.prog fn conds false w args ∧ X w) ∧ sizedMet enc C.prog fn (OpenSpec.ofChange s) false w args) (s.post enc C.prog fn false true false false) := by
  refine returnsInHanded_of_change_and (X := fun w _ => X w) (fun w w' _ h hx => hXh w w' h hx) own started noInit hfn witness ?_
  intro W base args ds gs before hval hW hcnd _ hL _
  obtain ⟨ρ0, G0, hg0⟩ := hst W hL
  have hW' := hW
  obtain ⟨p, q, hA, hV, rfl, hfz, hnd⟩ := hW
  rw [hvars] at hV
  obtain ⟨rfl, rfl⟩ := trodVars_none hV
  obtain ⟨H, ρ, us, dss, hHX, G, hρ, hvr, hrep⟩ := args_in (g := g) fn.params.toList args.toList ds p cts (fun j t v ht hv => hval j t v (by simpa using ht) (by simpa using hv)) hA has _ _ G0
  have hlen : ds.length = fn.params.size := by
    have : ∀ (ts : List TypeId) (vs : List Value) (ds : List (DataW D)) (ps : List MemPlace), DataW.TrodAll enc C.prog W 0 (fun _ => true) true ts vs ds ps → ds.length = ts.length := by
      intro ts
      induction ts with
      | nil => intro vs ds ps h; cases vs <;> cases ds <;> simp_all [DataW.TrodAll]
      | cons t ts ih =>
        intro vs ds ps h
        match vs, ds, h with
        | v :: vs, d :: ds, ⟨_, _, _, h2, _⟩ => simp [ih _ _ _ h2]
    simpa using this _ _ _ _ hA
  have hsd := hs ds hlen
  have hlt : ∀ x ∈ p, x.block < W.heap.size := fun z hz => by simpa using hW'.lt z (by simpa using hz)
  refine (calls_of_vcall (lim := H.length) (Checked.mixed C) hT (law H us dss hHX hrep) G.rel (hg0.mono hρ) hvr G.free hy).mono ?_
  rintro e W' ⟨v', H', x', ρ', hk, rfl, hx, g', _⟩
  subst hk
  cases hx
  have hb : Below W.heap.size W W' := by
    refine ⟨g'.os, g'.tape, g'.output, g'.size, fun k hk => g'.keep k hk ?_ (fun _ _ => by simp)⟩
    rintro ⟨b, o, c, _, ho, _⟩
    exact G.noOwn b ho
  simp only [List.append_nil] at hW'
  refine ⟨_, rfl, ds, [], p, [], p, [], by simpa using hW', ?_, ?_, ?_, hb.frame _, fun h => by cases h⟩
  · rw [List.append_nil, hsd, hres]
    exact trodAll_mk1 (shut_bool htb _)
  · rw [List.append_nil, hsd]
    exact trodAll_below hl _ _ _ _ hA hrd hb hlt
  · rw [List.append_nil, hsd, hvars]
    rfl

end Go.Proofs.YtpdnbmnnkefedaaGreatDoor.Vm
