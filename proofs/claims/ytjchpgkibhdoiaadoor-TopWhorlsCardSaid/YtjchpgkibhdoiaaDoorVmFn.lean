/- Functions: what the machine answers, the model's call answers. -/
import Derived.Test.YtjchpgkibhdoiaaDoorVmSim
namespace Go.Proofs.YtjchpgkibhdoiaaDoor.Vm
open Go
set_option linter.unusedVariables false
set_option linter.unusedSimpArgs false

/-- the table of slim functions speaks of the program's -/
def TblOk (P : Program) (T : Tbl) : Prop := ∀ f vf, T f = some vf → ∃ fn glob, P.funcs[f]? = some fn ∧ slimFn P glob fn = some vf

section
variable {P : Program} {ρ : Loc} {lam : Lam} {w : World}

def resM (tmps : Array Value) : ResultVar → Sem Value
  | .tmp t => pure (tmps.getD t undef)
  | .cell a t => do loadVar t (← asAddr (tmps.getD a undef))

theorem vweak_rel {v : V} {x : Value} (h : VR ρ v x) : VR ρ (vweak v) x := by
  cases h with
  | slc h1 h2 h3 h4 => exact .sl h1 (by omega) h4
  | _ => simp only [vweak]; constructor <;> assumption
theorem resV_rel {wk : Bool} {s : St} {a : Act} (hst : Stands ρ lam s a w) {r : ResultVar} {vr : VRes} (hr : slimRes P wk [r] = some [vr]) {v : V} (hv : resV s.fr s.L s.H vr = some v) : ∃ x, (resM a.tmps r).run P w = .ok x w ∧ VR ρ v x := by
  cases r with
  | tmp t =>
    simp [slimRes] at hr; subst hr
    cases wk
    · simp only [Bool.false_eq_true, if_false, resV] at hv
      split at hv
      case isFalse => cases hv
      rename_i hs
      cases hv
      exact ⟨_, by simp [resM], (hst.fr.fv t).stor hs⟩
    · simp only [if_true, resV] at hv
      split at hv
      case isFalse => cases hv
      rename_i hs
      cases hv
      exact ⟨_, by simp [resM], vweak_rel ((hst.fr.fv t).stor hs)⟩
  | cell t ty =>
    simp only [slimRes] at hr
    split at hr
    case h_2 => cases hr
    rename_i g vs hg hvs
    simp at hvs; subst hvs
    simp at hr; subst hr
    simp only [resV] at hv
    obtain ⟨y, h1, h2⟩ := vload_rel hv (hst.fr.fv t) hst.H hst.L (fun _ _ _ => trivial) hg
    refine ⟨y, ?_, h2⟩
    rw [← h1]
    have hf := hst.fr.fv t
    cases hq : s.fr t with
    | ptr b off =>
      rw [hq] at hf
      obtain ⟨r, o, c, _, hx⟩ := hf.ptr
      have hx : a.tmps.getD t undef = Value.pointer (some ⟨r, o + off, none⟩) := hx
      simp only [resM, Instr.loadAt]
      simp only [ux] at *
      rw [hx]
      simp [asAddr, Instr.sureAddr]
    | lp id off =>
      rw [hq] at hf
      obtain ⟨r, _, hx⟩ := hf.lpt
      have hx : a.tmps.getD t undef = Value.pointer (some ⟨r, off, none⟩) := hx
      simp only [resM, Instr.loadAt]
      simp only [ux] at *
      rw [hx]
      simp [asAddr, Instr.sureAddr]
    | _ => rw [hq] at hv; simp [vload] at hv

theorem slimRes_cons {wk : Bool} {r : ResultVar} {rs : List ResultVar} {vrs : List VRes} (h : slimRes P wk (r :: rs) = some vrs) : ∃ vr vrs', vrs = vr :: vrs' ∧ slimRes P wk [r] = some [vr] ∧ slimRes P wk rs = some vrs' := by
  cases r with
  | tmp t =>
    simp only [slimRes, Option.map_eq_some_iff] at h
    obtain ⟨vrs', h1, rfl⟩ := h
    exact ⟨_, _, rfl, by simp [slimRes], h1⟩
  | cell a t =>
    simp only [slimRes] at h
    split at h
    · rename_i g vs h1 h2
      cases h
      exact ⟨_, _, rfl, by simp [slimRes, h1], h2⟩
    · cases h

theorem resVs_rel {wk : Bool} {s : St} {a : Act} (hst : Stands ρ lam s a w) : ∀ {rs : List ResultVar} {vrs : List VRes} {vs : List V}, slimRes P wk rs = some vrs → resVs s.fr s.L s.H vrs = some vs →
    ∃ xs, (rs.mapM (resM a.tmps)).run P w = .ok xs w ∧ VRs ρ vs xs
  | [], vrs, vs, h, hv => by
    simp [slimRes] at h; subst h
    simp [resVs] at hv; subst hv
    exact ⟨[], by simp, .nil⟩
  | r :: rs, vrs, vs, h, hv => by
    obtain ⟨vr, vrs', rfl, h1, h2⟩ := slimRes_cons h
    simp only [resVs] at hv
    split at hv
    case h_2 => cases hv
    rename_i v vs' hv1 hv2
    cases hv
    obtain ⟨x, g1, g2⟩ := resV_rel hst h1 hv1
    obtain ⟨xs, g3, g4⟩ := resVs_rel hst h2 hv2
    exact ⟨x :: xs, by simp [List.mapM_cons, g1, g3], g4.cons g2⟩

theorem results_rel {wk : Bool} {s : St} {a : Act} (hst : Stands ρ lam s a w) {fn : Func} {vrs : List VRes} (h : slimRes P wk fn.results.toList = some vrs) {v : V} (hv : vres vrs s.fr s.L s.H = some v) :
    ∃ x, (results fn a.tmps).run P w = .ok x w ∧ VR ρ v x := by
  have e : results fn a.tmps = (fn.results.toList.mapM (resM a.tmps)) >>= fun l => pure (if h : l.toArray.size = 1 then l.toArray[0] else .tuple l.toArray) := by
    unfold results
    rw [Array.mapM_eq_mapM_toList]
    simp only [bind_map_left]
    rfl
  unfold vres at hv
  split at hv
  · rename_i u hu
    cases hv
    obtain ⟨xs, h1, h2⟩ := resVs_rel hst h hu
    match xs, h2 with
    | [x], h2 =>
      refine ⟨x, by rw [e]; simp [h1], ?_⟩
      simpa using h2.2 0 (by simp)
    | [], h2 => have := h2.1; simp at this
    | _ :: _ :: _, h2 => have := h2.1; simp at this
  · rename_i us hne hu
    cases hv
    obtain ⟨xs, h1, h2⟩ := resVs_rel hst h hu
    have hlen : us.length ≠ 1 := by
      intro h1
      match us, h1 with
      | [u], _ => exact hne u rfl
    have hlen' : xs.length ≠ 1 := by rw [← h2.1]; exact hlen
    refine ⟨.tuple xs.toArray, by rw [e]; simp [h1, hlen'], .tup (by simpa using h2.1) fun i hi => ?_⟩
    have := h2.2 i hi
    simpa [List.getD_eq_getElem?_getD, Array.getD_eq_getD_getElem?] using this
  · cases hv

theorem start_stands {args : List V} {H : Hp} {xs : Array Value} (hH : RelH ρ H w) (hG : GRel ρ) (hx : VRs ρ args xs.toList) (m : Nat) : Stands ρ (fun _ => none) ⟨fr0 args, [], H⟩ { tmps := xs ++ Array.replicate m undef, defers := [] } w := by
  refine ⟨⟨fun t => ?_, hG⟩, hH, fun id r h => by simp at h, fun i j r h => by simp at h, fun id r b o c h => by simp at h, fun id r cs _ h => by simp at h⟩
  simp only [fr0]
  by_cases ht : t < args.length
  · have := hx.2 t ht
    have hl := hx.1
    refine .vr ?_
    have ht2 : t < xs.size := by simpa using (hl ▸ ht : t < xs.toList.length)
    rw [Array.getD_eq_getD_getElem?, Array.getElem?_append_left ht2]
    rw [List.getD_eq_getElem?_getD (l := xs.toList), Array.getElem?_toList] at this
    exact this
  · have hl := hx.1
    have e1 : args.getD t dv = dv := by simp [List.getD_eq_getElem?_getD, List.getElem?_eq_none (Nat.le_of_not_lt ht)]
    have ht2 : xs.size ≤ t := by
      have : xs.toList.length = xs.size := by simp
      omega
    have e2 : (xs ++ Array.replicate m undef).getD t ux = ux := by
      rw [Array.getD_eq_getD_getElem?, Array.getElem?_append_right ht2]
      by_cases h : t - xs.size < m
      · simp [h]
      · simp [h]
    rw [e1]
    rw [e2]
    exact .undef

theorem evFn_ok (hm : P.follows .mixedOrders = true) {T : Tbl} (hT : TblOk P T) : ∀ n, CallOk P (evFn T n)
  | 0 => fun lim f args H v H' h => by simp [evFn] at h
  | n + 1 => fun lim f args H v H' h => by
    refine ⟨?_, fun ρ w xs hH hG hxs hfR => ?_⟩
    · simp only [evFn] at h
      split at h
      · cases h
      rename_i vf hvf
      obtain ⟨fn, glob, hfn, hsl⟩ := hT f vf hvf
      unfold slimFn at hsl
      split at hsl
      · cases hsl
      rename_i c hbody
      split at hsl
      case isFalse => cases hsl
      rename_i hnt
      simp [bodied, hfn, hbody, hnt.2]
    simp only [evFn] at h
    split at h
    · cases h
    rename_i vf hvf
    obtain ⟨fn, glob, hfn, hsl⟩ := hT f vf hvf
    split at h
    case isFalse => cases h
    rename_i hlen
    unfold slimFn at hsl
    split at hsl
    · cases hsl
    rename_i c hbody
    split at hsl
    case isFalse => cases hsl
    rename_i hnt
    split at hsl
    case h_2 => cases hsl
    rename_i rs vc hrs hvc
    cases hsl
    simp only at h hlen
    have hxl : xs.size = args.length := by
      have := hxs.1
      simp at this; omega
    have hend : ∀ (e : VExit) (s : St), evCode (evFn T n) lim n vc ⟨fr0 args, [], H⟩ = some (e, s) → (e = .normal ∨ e = .ret) → vres rs s.fr s.L s.H = some v → s.H = H' → Calls P f xs w fun e w' => ∃ x ρ', e = .returned x ∧ VR ρ' v x ∧ Grow lim (fun _ => True) ρ (fun _ => none) [] H w ρ' (fun _ => none) [] H' w' ∧ RelH ρ' H' w' := by
      intro e s he hee hv hsH
      subst hsH
      refine calls_of_wp hfn hbody ?_
      refine wp_mono (code_sim (glob := glob) (nt := fn.ntmps) hm (evFn_ok hm hT n) (evFn_ext T n) n c vc _ s e ρ (fun _ => none) _ w hvc he ?_ (start_stands hH hG hxs _) hfR fun i _ _ => rfl) ?_
      · simp; omega
      · rintro e' a' w' ⟨rfl, hd, hz, ρ', lam', hst, g⟩
        obtain ⟨x, hx1, hx2⟩ := results_rel hst hrs hv
        have g' : Grow lim (fun _ => True) ρ (fun _ => none) [] H w ρ' (fun _ => none) [] s.H w' :=
          ⟨g.os, g.tape, g.output, g.size, g.lenH, Nat.le_refl _, g.extR, fun _ _ => rfl, g.newR, fun i r _ h2 => absurd h2 (by simp), fun r hr ho ht => g.keep r hr ho ht, g.own⟩
        rcases hee with rfl | rfl
        · exact ⟨hd, x, hx1, x, ρ', rfl, hx2, g', hst.H⟩
        · exact ⟨hd, x, hx1, x, ρ', rfl, hx2, g', hst.H⟩
    split at h
    · cases h
    · rename_i e s hne he
      split at h
      case h_2 => cases h
      rename_i v' hv'
      simp only [Option.some.injEq, Prod.mk.injEq] at h
      obtain ⟨rfl, hH'⟩ := h
      refine hend e s he ?_ hv' hH'
      cases e with
      | normal => exact Or.inl rfl
      | ret => exact Or.inr rfl
      | exit id => exact (hne id rfl).elim
    · cases h

end
end Go.Proofs.YtjchpgkibhdoiaaDoor.Vm
