/- Functions: what the machine answers, the model's call answers. -/
import Derived.Test.YtpdnbmnnkefedaaGreatDoorVmSim
import Derived.Below
namespace Go.Proofs.YtpdnbmnnkefedaaGreatDoor.Vm
open Go
set_option linter.unusedVariables false
set_option linter.unusedSimpArgs false

/-- a function whose contract is given keeps it -/
def PrimOk (P : Program) (f : FuncId) (g : PrimF) : Prop := bodied P f = true ∧ ∀ (lim : Nat) (args : List V) (H : Hp) (v : V) (bs : List Blk) (ρ : Loc) (w : World) (xs : Array Value), g args H = some (v, bs) → RelH ρ H w → GRel ρ → VRs ρ args xs.toList → FreeR ρ H.length (H ++ bs).length →
  Calls P f xs w fun e w' => ∃ x ρ', e = .returned x ∧ VR ρ' v x ∧ Grow lim (fun _ => True) ρ (fun _ => none) [] H w ρ' (fun _ => none) [] (H ++ bs) w' ∧ RelH ρ' (H ++ bs) w'
/-- a function whose code is written by hand keeps it -/
def HandOk (P : Program) (f : FuncId) (vf : VFn) : Prop := bodied P f = true ∧ ∀ (call : CallFn) (n lim : Nat) (args : List V) (H : Hp) (v : V) (s : St) (e : VExit), CallOk P call → CallExt call → args.length = vf.nparams → evCode call lim n vf.body ⟨fr0 args, [], H⟩ = some (e, s) → (e = .normal ∨ e = .ret) → vres vf.results s.fr s.L s.H = some v →
  ∀ (ρ : Loc) (w : World) (xs : Array Value), RelH ρ H w → GRel ρ → VRs ρ args xs.toList → FreeR ρ H.length s.H.length →
  Calls P f xs w fun e w' => ∃ x ρ', e = .returned x ∧ VR ρ' v x ∧ Grow lim (fun _ => True) ρ (fun _ => none) [] H w ρ' (fun _ => none) [] s.H w' ∧ RelH ρ' s.H w'
/-- the table of slim functions speaks of the program's -/
def TblOk (P : Program) (T : Tbl) : Prop := ∀ f vf, T f = some vf →
  (f < rB ∧ ∃ fn glob, P.funcs[f]? = some fn ∧ slimFn P glob fn = some vf ∧ (noRd fn = true ∨ (P = theP ∧ rMark glob = some (rB + f) ∧ (rdOf P (rB + f)).isSome = true))) ∨
  (rB ≤ f ∧ P = theP ∧ ∃ fn glob, slimRd P glob f fn = some vf) ∨
  (f < rB ∧ ∃ g, primOf vf.body = some g ∧ PrimOk P f g) ∨
  (f < rB ∧ primOf vf.body = none ∧ HandOk P f vf)

section
variable {P : Program} {ρ : Loc} {lam : Lam} {w : World}

def resM (tmps : Array Value) : ResultVar → Sem Value
  | .tmp t => pure (tmps.getD t undef)
  | .cell a t => do loadVar t (← asAddr (tmps.getD a undef))

theorem vweak_rel {v : V} {x : Value} (h : VR ρ v x) : VR ρ (vweak v) x := by
  cases h with
  | slc h1 h2 h3 h4 => exact .sl h1 (by omega) h4
  | _ => simp only [vweak]; constructor <;> assumption
theorem resV_rel {wk : Bool} {s : St} {a : Act} (hst : Stands ρ lam s a w) {r : ResultVar} {vr : VRes} (hr : slimRes P wk [r] = some [vr]) {v : V} (hv : resV s.fr s.L s.H vr = some v) : ∃ x, (resM a.tmps r).run P w = .ok x w ∧ VR ρ v x := by
  cases r with
  | tmp t =>
    simp [slimRes] at hr; subst hr
    cases wk
    · simp only [Bool.false_eq_true, if_false, resV] at hv
      split at hv
      case isFalse => cases hv
      rename_i hs
      cases hv
      exact ⟨_, by simp [resM], (hst.fr.fv t).stor hs⟩
    · simp only [if_true, resV] at hv
      split at hv
      case isFalse => cases hv
      rename_i hs
      cases hv
      exact ⟨_, by simp [resM], vweak_rel ((hst.fr.fv t).stor hs)⟩
  | cell t ty =>
    simp only [slimRes] at hr
    split at hr
    case h_2 => cases hr
    rename_i g vs hg hvs
    simp at hvs; subst hvs
    simp at hr; subst hr
    simp only [resV] at hv
    obtain ⟨y, h1, h2⟩ := vload_rel hv (hst.fr.fv t) hst.H hst.L (fun _ _ _ => trivial) hg
    refine ⟨y, ?_, h2⟩
    rw [← h1]
    have hf := hst.fr.fv t
    cases hq : s.fr t with
    | ptr b off =>
      rw [hq] at hf
      obtain ⟨r, o, c, _, hx⟩ := hf.ptr
      have hx : a.tmps.getD t undef = Value.pointer (some ⟨r, o + off, none⟩) := hx
      simp only [resM, Instr.loadAt]
      simp only [ux] at *
      rw [hx]
      simp [asAddr, Instr.sureAddr]
    | lp id off =>
      rw [hq] at hf
      obtain ⟨r, _, hx⟩ := hf.lpt
      have hx : a.tmps.getD t undef = Value.pointer (some ⟨r, off, none⟩) := hx
      simp only [resM, Instr.loadAt]
      simp only [ux] at *
      rw [hx]
      simp [asAddr, Instr.sureAddr]
    | _ => rw [hq] at hv; simp [vload] at hv

theorem slimRes_cons {wk : Bool} {r : ResultVar} {rs : List ResultVar} {vrs : List VRes} (h : slimRes P wk (r :: rs) = some vrs) : ∃ vr vrs', vrs = vr :: vrs' ∧ slimRes P wk [r] = some [vr] ∧ slimRes P wk rs = some vrs' := by
  cases r with
  | tmp t =>
    simp only [slimRes, Option.map_eq_some_iff] at h
    obtain ⟨vrs', h1, rfl⟩ := h
    exact ⟨_, _, rfl, by simp [slimRes], h1⟩
  | cell a t =>
    simp only [slimRes] at h
    split at h
    · rename_i g vs h1 h2
      cases h
      exact ⟨_, _, rfl, by simp [slimRes, h1], h2⟩
    · cases h

theorem resVs_rel {wk : Bool} {s : St} {a : Act} (hst : Stands ρ lam s a w) : ∀ {rs : List ResultVar} {vrs : List VRes} {vs : List V}, slimRes P wk rs = some vrs → resVs s.fr s.L s.H vrs = some vs →
    ∃ xs, (rs.mapM (resM a.tmps)).run P w = .ok xs w ∧ VRs ρ vs xs
  | [], vrs, vs, h, hv => by
    simp [slimRes] at h; subst h
    simp [resVs] at hv; subst hv
    exact ⟨[], by simp, .nil⟩
  | r :: rs, vrs, vs, h, hv => by
    obtain ⟨vr, vrs', rfl, h1, h2⟩ := slimRes_cons h
    simp only [resVs] at hv
    split at hv
    case h_2 => cases hv
    rename_i v vs' hv1 hv2
    cases hv
    obtain ⟨x, g1, g2⟩ := resV_rel hst h1 hv1
    obtain ⟨xs, g3, g4⟩ := resVs_rel hst h2 hv2
    exact ⟨x :: xs, by simp [List.mapM_cons, g1, g3], g4.cons g2⟩

theorem results_rel {wk : Bool} {s : St} {a : Act} (hst : Stands ρ lam s a w) {fn : Func} {vrs : List VRes} (h : slimRes P wk fn.results.toList = some vrs) {v : V} (hv : vres vrs s.fr s.L s.H = some v) :
    ∃ x, (results fn a.tmps).run P w = .ok x w ∧ VR ρ v x := by
  have e : results fn a.tmps = (fn.results.toList.mapM (resM a.tmps)) >>= fun l => pure (if h : l.toArray.size = 1 then l.toArray[0] else .tuple l.toArray) := by
    unfold results
    rw [Array.mapM_eq_mapM_toList]
    simp only [bind_map_left]
    rfl
  unfold vres at hv
  split at hv
  · rename_i u hu
    cases hv
    obtain ⟨xs, h1, h2⟩ := resVs_rel hst h hu
    match xs, h2 with
    | [x], h2 =>
      refine ⟨x, by rw [e]; simp [h1], ?_⟩
      simpa using h2.2 0 (by simp)
    | [], h2 => have := h2.1; simp at this
    | _ :: _ :: _, h2 => have := h2.1; simp at this
  · rename_i us hne hu
    cases hv
    obtain ⟨xs, h1, h2⟩ := resVs_rel hst h hu
    have hlen : us.length ≠ 1 := by
      intro h1
      match us, h1 with
      | [u], _ => exact hne u rfl
    have hlen' : xs.length ≠ 1 := by rw [← h2.1]; exact hlen
    refine ⟨.tuple xs.toArray, by rw [e]; simp [h1, hlen'], .tup (by simpa using h2.1) fun i hi => ?_⟩
    have := h2.2 i hi
    simpa [List.getD_eq_getElem?_getD, Array.getD_eq_getD_getElem?] using this
  · cases hv

theorem start_stands {args : List V} {H : Hp} {xs : Array Value} (hH : RelH ρ H w) (hG : GRel ρ) (hx : VRs ρ args xs.toList) (m : Nat) : Stands ρ (fun _ => none) ⟨fr0 args, [], H⟩ { tmps := xs ++ Array.replicate m undef, defers := [] } w := by
  refine ⟨⟨fun t => ?_, hG⟩, hH, fun id r h => by simp at h, fun i j r h => by simp at h, fun id r b o c h => by simp at h, fun id r cs _ h => by simp at h⟩
  simp only [fr0]
  by_cases ht : t < args.length
  · have := hx.2 t ht
    have hl := hx.1
    refine .vr ?_
    have ht2 : t < xs.size := by simpa using (hl ▸ ht : t < xs.toList.length)
    rw [Array.getD_eq_getD_getElem?, Array.getElem?_append_left ht2]
    rw [List.getD_eq_getElem?_getD (l := xs.toList), Array.getElem?_toList] at this
    exact this
  · have hl := hx.1
    have e1 : args.getD t dv = dv := by simp [List.getD_eq_getElem?_getD, List.getElem?_eq_none (Nat.le_of_not_lt ht)]
    have ht2 : xs.size ≤ t := by
      have : xs.toList.length = xs.size := by simp
      omega
    have e2 : (xs ++ Array.replicate m undef).getD t ux = ux := by
      rw [Array.getD_eq_getD_getElem?, Array.getElem?_append_right ht2]
      by_cases h : t - xs.size < m
      · simp [h]
      · simp [h]
    rw [e1]
    rw [e2]
    exact .undef

/-- another world that differs at a block that is neither cells nor what a virtual block stands for -/
theorem RelH.other {H : Hp} {w w' : World} {r : Nat} {ob : Obj} (hH : RelH ρ H w) (hr : w.heap[r]? = some ob) (h1 : ∀ C el fz, ob ≠ .cells C el fz) (h2 : ∀ x, ¬ SpR ρ x ob) (hsz : w.heap.size ≤ w'.heap.size) (hk : ∀ r', r' ≠ r → w'.heap[r']? = w.heap[r']?) : RelH ρ H w' := by
  refine ⟨fun b r' o c h => Nat.lt_of_lt_of_le (hH.dom b r' o c h) hsz, fun b r' o c cs own p1 p2 => ?_, hH.inj, ⟨fun b r' o c x hx p1 p2 => ?_, hH.mp.inj⟩⟩
  · obtain ⟨C, el, fz, g1, g2⟩ := hH.row b r' o c cs own p1 p2
    exact ⟨C, el, fz, by rw [hk r' (fun e => by subst e; rw [hr] at g1; exact h1 _ _ _ (Option.some.inj g1))]; exact g1, g2⟩
  · obtain ⟨ob', g1, g2⟩ := hH.mp.ent b r' o c x hx p1 p2
    exact ⟨ob', by rw [hk r' (fun e => by subst e; rw [hr] at g1; cases g1; exact h2 _ g2)]; exact g1, g2⟩
theorem spR_dfr {x : Blk} {ds : Option (List Deferred)} : ¬ SpR ρ x (.deferred ds) := by
  intro h; cases x <;> exact h
/-- the marks are met on the way out -/
theorem leaves_marks {H : Hp} {L : Lo} {lo : Nat} {fn : Func} {tmps : Array Value} {R : Ending → World → Prop} : ∀ (ms : List Nat) (w : World), MkOk lo ms lam w → RelH ρ H w → RelL (fun _ => True) ρ lam L w →
    (∀ w'', RelH ρ H w'' → RelL (fun _ => True) ρ lam L w'' → w''.os = w.os → w''.tape = w.tape → w''.output = w.output → w''.heap.size = w.heap.size → (∀ r, r < lo → w''.heap[r]? = w.heap[r]?) → LeavesIn (rF none) 0 P fn tmps R [] .returning w'') →
    LeavesInM (rF none) 0 P fn tmps R (ms.map mkD) .returning w
  | [], w, _, hH, hL, h => h w hH hL rfl rfl rfl rfl (fun _ _ => rfl)
  | r :: ms, w, hm, hH, hL, h => by
    obtain ⟨h0, h1, h2⟩ := hm.2 r (by simp)
    have hlt : r < w.heap.size := (Array.getElem?_eq_some_iff.1 h1).1
    have hnd := List.nodup_cons.1 hm.1
    have hk : ∀ r', r' ≠ r → (w.putObj r (.deferred none)).heap[r']? = w.heap[r']? := fun r' hr' => World.putObj_heap_other hr'
    have hH' : RelH ρ H (w.putObj r (.deferred none)) := hH.other h1 (fun _ _ _ e => by cases e) (fun _ => spR_dfr) (by simp) hk
    have hL' : RelL (fun _ => True) ρ lam L (w.putObj r (.deferred none)) := hL.putL h2
    refine ⟨by simp, Or.inl ⟨r, _, rfl, run_takeDeferred h1, leaves_marks (lo := lo) ms _ ⟨hnd.2, fun r' hr' => ?_⟩ hH' hL' fun w'' p1 p2 p3 p4 p5 p6 p7 => h w'' p1 p2 (p3.trans rfl) (p4.trans rfl) (p5.trans rfl) (by rw [p6]; simp) fun r' hr' => ?_⟩⟩
    · obtain ⟨q0, q1, q2⟩ := hm.2 r' (by simp [hr'])
      exact ⟨q0, by rw [hk r' (fun e => by subst e; exact hnd.1 hr')]; exact q1, q2⟩
    · rw [p7 r' hr', hk r' (by omega)]

/-- the record is ready again -/
theorem RelH.backL {H : Hp} {w : World} {b r o c : Nat} {f : FuncId} {ps : List Nat} {fr : List V} {rc rb : Go.Loop} (hH : RelH ρ H w) (hr : w.heap[r]? = some (.loop rb)) (hbusy : rb.state = .busy) (hρ : ρ b = some (r, o, c)) (hlt : b < H.length) (hlp : LpR ρ f ps fr rc) :
    RelH ρ (H.set b (.loop f ps fr)) (w.putObj r (.loop rc)) := by
  have hrl : r < w.heap.size := (Array.getElem?_eq_some_iff.1 hr).1
  have hk : ∀ r', r' ≠ r → (w.putObj r (.loop rc)).heap[r']? = w.heap[r']? := fun r' h => World.putObj_heap_other h
  have hget : ∀ (b' : Nat) (x : Blk), (H.set b (.loop f ps fr))[b']? = some x → (b' = b ∧ x = .loop f ps fr) ∨ (b' ≠ b ∧ H[b']? = some x) := by
    intro b' x h
    by_cases e : b = b'
    · subst e; rw [List.getElem?_set_self hlt] at h; exact Or.inl ⟨rfl, (Option.some.inj h).symm⟩
    · rw [List.getElem?_set_ne e] at h; exact Or.inr ⟨fun e' => e e'.symm, h⟩
  have hnr : ∀ b' o' c' x, spB x = true → ρ b' = some (r, o', c') → H[b']? = some x → False := by
    intro b' o' c' x hx h1 h2
    obtain ⟨ob, g1, g2⟩ := hH.mp.ent b' r o' c' x hx h1 h2
    rw [hr] at g1; cases g1
    cases x with
    | loop _ _ _ => have := LpR.st g2; rw [hbusy] at this; cases this
    | _ => exact g2
  refine ⟨fun b' r' o' c' h => by simpa using hH.dom b' r' o' c' h, fun b' r' o' c' cs own h1 h2 => ?_, fun b1 b2 r' o1 c1 o2 c2 cs1 cs2 own2 h1 h2 k1 k2 => ?_, ⟨fun b' r' o' c' x hx h1 h2 => ?_, fun b1 b2 r' o1 c1 o2 c2 x1 x2 hx1 hx2 h1 h2 k1 k2 => ?_⟩⟩
  · rcases hget _ _ h2 with ⟨_, e⟩ | ⟨_, h2⟩
    · cases e
    obtain ⟨C, el, fz, g1, g2⟩ := hH.row b' r' o' c' cs own h1 h2
    exact ⟨C, el, fz, by rw [hk r' (fun e => by subst e; rw [hr] at g1; cases g1)]; exact g1, g2⟩
  · rcases hget _ _ k1 with ⟨_, e⟩ | ⟨_, k1⟩
    · cases e
    rcases hget _ _ k2 with ⟨_, e⟩ | ⟨_, k2⟩
    · cases e
    exact hH.inj b1 b2 r' o1 c1 o2 c2 cs1 cs2 own2 h1 h2 k1 k2
  · rcases hget _ _ h2 with ⟨rfl, rfl⟩ | ⟨hne, h2⟩
    · rw [hρ] at h1; cases h1
      exact ⟨_, World.putObj_heap_same hrl, hlp⟩
    obtain ⟨ob, g1, g2⟩ := hH.mp.ent b' r' o' c' x hx h1 h2
    exact ⟨ob, by rw [hk r' (fun e => by subst e; exact hnr _ _ _ x hx h1 h2)]; exact g1, g2⟩
  · rcases hget _ _ k1 with ⟨e1, _⟩ | ⟨_, k1'⟩ <;> rcases hget _ _ k2 with ⟨e2, _⟩ | ⟨_, k2'⟩
    · rw [e1, e2]
    · rw [e1, hρ] at h1; cases h1
      exact (hnr _ _ _ x2 hx2 h2 k2').elim
    · rw [e2, hρ] at h2; cases h2
      exact (hnr _ _ _ x1 hx1 h1 k1').elim
    · exact hH.mp.inj b1 b2 r' o1 c1 o2 c2 x1 x2 hx1 hx2 h1 h2 k1' k2'
/-- a round's frame -/
def FrA (ρ : Loc) (fr : List V) (tm : Array Value) : Prop := fr.length = tm.size ∧ ∀ t, t < fr.length → (fr.getD t dv = .hid ∧ ∀ b, tm.getD t ux ≠ .bool b) ∨ VR ρ (fr.getD t dv) (tm.getD t ux)
theorem FrA.set {fr : List V} {tm : Array Value} (h : FrA ρ fr tm) {v : V} {x : Value} (hv : VR ρ v x) (t : Nat) : FrA ρ (fr.set t v) (tm.setIfInBounds t x) := by
  refine ⟨by simp [h.1], fun t' ht' => ?_⟩
  have ht' : t' < fr.length := by simpa using ht'
  have ht2 : t' < tm.size := by rw [← h.1]; exact ht'
  by_cases e : t = t'
  · subst e
    right
    simp only [List.getD_eq_getElem?_getD, List.getElem?_set_self ht', Option.getD_some, Array.getD_eq_getD_getElem?]
    rw [Array.getElem?_setIfInBounds_self_of_lt ht2]
    exact hv
  · have := h.2 t' ht'
    simp only [List.getD_eq_getElem?_getD, Array.getD_eq_getD_getElem?] at this ⊢
    rw [List.getElem?_set_ne e, Array.getElem?_setIfInBounds_ne e]
    exact this
theorem FrA.setPs : ∀ {ps : List Nat} {ys : List V} {xs : List Value} {fr : List V} {tm : Array Value}, FrA ρ fr tm → VRs ρ ys xs → FrA ρ (setPs fr ps ys) ((ps.zip xs).foldl (fun t (p : Nat × Value) => t.setIfInBounds p.1 p.2) tm)
  | [], ys, xs, fr, tm, h, _ => by simpa [Vm.setPs] using h
  | p :: ps, [], xs, fr, tm, h, hv => by
    have : xs = [] := by have := hv.1; cases xs <;> simp at this ⊢
    subst this
    simpa [Vm.setPs] using h
  | p :: ps, y :: ys, [], fr, tm, h, hv => by have := hv.1; simp at this
  | p :: ps, y :: ys, x :: xs, fr, tm, h, hv => by
    have h0 : VR ρ y x := by have := hv.2 0 (by simp); simpa using this
    have h1 : VRs ρ ys xs := ⟨by have := hv.1; simpa using this, fun i hi => by have := hv.2 (i + 1) (by simpa using hi); simpa using this⟩
    have := FrA.setPs (ps := ps) (h.set h0 p) h1
    exact this
theorem setPs_len : ∀ {ps : List Nat} {ys fr : List V}, (Vm.setPs fr ps ys).length = fr.length
  | [], ys, fr => by simp [Vm.setPs]
  | p :: ps, [], fr => by simp [Vm.setPs]
  | p :: ps, y :: ys, fr => by
    have := setPs_len (ps := ps) (ys := ys) (fr := fr.set p y)
    simp only [Vm.setPs, this, List.length_set]
theorem FrA.frel {fr : List V} {tm : Array Value} (h : FrA ρ fr tm) (hG : GRel ρ) : FRel ρ lam (frR fr) tm := by
  refine ⟨fun t => ?_, hG⟩
  unfold frR
  by_cases ht : t < fr.length
  · have e : fr.getD t .hid = fr.getD t dv := by simp [List.getD_eq_getElem?_getD, ht]
    rw [e]
    rcases h.2 t ht with ⟨h1, h2⟩ | h1
    · rw [h1]; exact .hid h2
    · exact .vr h1
  · have e : fr.getD t .hid = .hid := by simp [List.getD_eq_getElem?_getD, List.getElem?_eq_none (Nat.le_of_not_lt ht)]
    have e2 : tm.getD t ux = ux := by rw [Array.getD_eq_getD_getElem?, Array.getElem?_eq_none (by rw [← h.1]; omega)]; rfl
    rw [e, e2]
    exact .hid fun b hb => by cases hb

theorem rd_of {P : Program} {f f' : FuncId} {fn : Func} {c : Code} {glob : List Nat} (hfn : P.funcs[f]? = some fn) (hbody : fn.body = some c) (hrd : noRd fn = true ∨ (P = theP ∧ rMark glob = some (rB + f) ∧ (rdOf P (rB + f)).isSome = true)) {t : Array Tmp × Code × Code} (ht : t ∈ rsOf c) (hf' : rMark glob = some f') : rdOf theP f' = some t := by
  rcases hrd with hrd | ⟨hP, hmk, hsome⟩
  · unfold noRd at hrd
    rw [hbody] at hrd
    simp only [List.isEmpty_iff] at hrd
    rw [hrd] at ht; cases ht
  · have e : f' = rB + f := by rw [hmk] at hf'; exact (Option.some.inj hf').symm
    rw [e, ← hP]
    exact rdAt_add hfn hbody hsome ht

theorem round_ok {P : Program} (hm : P.follows .mixedOrders = true) {call : CallFn} (hcall : CallOk P call) (hc : CallExt call) {glob : List Nat} {nt n lim b r oo c : Nat} {rc : Go.Loop} {va vb : VCode} (hva : slimCode P glob nt rc.assign = some va) (hvb : slimCode P glob nt rc.body = some vb)
    (he1 : rsOf rc.assign = []) (he2 : rsOf rc.body = []) {f f1 : FuncId} {ps ps1 : List Nat} {fr fr1 : List V} {ys : List V} {H : Hp} {s1 s : St} {w : World} {xs : Array Value} (hnt : nt = fr.length) (hb : H[b]? = some (.loop f ps fr)) (hl : lim ≤ b)
    (h1 : evCode call lim n va ⟨frR (setPs fr ps ys), [], H⟩ = some (.normal, s1)) (hb1 : s1.H[b]? = some (.loop f1 ps1 fr1)) (h2 : evCode call lim n vb ⟨s1.fr, s1.L, s1.H.set b .dead⟩ = some (.normal, s)) (hd : s.H[b]? = some .dead)
    (hρ : ρ b = some (r, oo, c)) (hr : w.heap[r]? = some (.loop rc)) (lpr : LpR ρ f ps fr rc) (hH : RelH ρ H w) (hG : GRel ρ) (hxs : VRs ρ ys xs.toList) (hfR : FreeR ρ H.length (s.H.set b (.loop f ps fr)).length) {r0 : Option Nat} :
    RoundIn (rF r0) 0 P r rc.fn ((rc.params.zip xs).foldl (fun tmps (t, a) => tmps.setIfInBounds t a) rc.tmps) rc.assign rc.body w
      fun e w' => ∃ ρ', e = .returned (.bool true) ∧ V.bool true = .bool true ∧ Grow lim (fun _ => True) ρ (fun _ => none) [] H w ρ' (fun _ => none) [] (s.H.set b (.loop f ps fr)) w' ∧ RelH ρ' (s.H.set b (.loop f ps fr)) w' := by
  have hA : FrA ρ (setPs fr ps ys) ((rc.params.zip xs).foldl (fun tmps (t, a) => tmps.setIfInBounds t a) rc.tmps) := by
    have h0 : FrA ρ fr rc.tmps := ⟨lpr.len, lpr.fr⟩
    have := h0.setPs (ps := ps) hxs
    rw [lpr.ps] at this
    rw [← Array.foldl_toList, Array.toList_zip, lpr.ps]
    exact this
  generalize (rc.params.zip xs).foldl (fun tmps (t, a) => tmps.setIfInBounds t a) rc.tmps = tm at *
  have hsz : nt = tm.size := by rw [hnt, ← hA.1]; exact setPs_len.symm
  obtain ⟨x1, _⟩ := (evCode_ext hc h1).1
  obtain ⟨x2, _⟩ := (evCode_ext hc h2).1
  simp only [List.length_set] at x1 x2 hfR
  have hblt : b < H.length := (List.getElem?_eq_some_iff.1 hb).1
  have hrlt : r < w.heap.size := (Array.getElem?_eq_some_iff.1 hr).1
  have S0 : Stands ρ (fun _ => none) ⟨frR (setPs fr ps ys), [], H⟩ { tmps := tm, defers := [] } w :=
    ⟨hA.frel hG, hH, fun id r h => by simp at h, fun i j r h => by simp at h, fun id r b o c h => by simp at h, fun id r cs _ h => by simp at h⟩
  have noL : ∀ {t : Array Tmp × Code × Code} {l : List (Array Tmp × Code × Code)} {Q : Prop}, l = [] → t ∈ l → Q := fun h ht => by rw [h] at ht; cases ht
  refine roundIn_of_wpIn (F := rF r0) trivial (wpIn_mono (code_sim (r := some r) (glob := glob) (nt := nt) hm hcall hc n rc.assign va _ s1 .normal ρ (fun _ => none) _ w hva h1 hsz S0 (fun i g1 g2 => hfR i g1 (by omega)) (fun i _ _ => rfl) (fun t ht => noL he1 ht)) ?_)
  rintro e' a1 w1 ⟨rfl, ms, _, hz, ρ1, lam1, hst1, g1, _⟩
  have nc : ∀ {rx : Go.Loop}, (∀ C el fz, Obj.loop rx ≠ .cells C el fz) ∧ ((∀ es clk, Obj.loop rx ≠ .map es clk) ∧ ∀ s p, Obj.loop rx ≠ .stringIter s p) := ⟨fun _ _ _ e => (by cases e), fun _ _ e => (by cases e), fun _ _ e => (by cases e)⟩
  have hr1 : w1.heap[r]? = some (.loop rc) := by rw [g1.keep r hrlt (not_open hH hr nc.1 nc.2) (fun _ _ => by simp)]; exact hr
  have hr1lt : r < w1.heap.size := (Array.getElem?_eq_some_iff.1 hr1).1
  have hρ1 : ρ1 b = some (r, oo, c) := by rw [g1.extR b (Or.inl hblt)]; exact hρ
  have newlam : ∀ i r', lam1 i = some r' → w.heap.size ≤ r' := by
    intro i r' hi
    by_cases hn : i < ([] : Lo).length ∨ s1.L.length ≤ i
    · rw [g1.extL i hn] at hi; cases hi
    · exact g1.newL i r' (by simp) (by omega) hi
  have hlam1 : ∀ i, lam1 i ≠ some r := fun i hi => by have := newlam i r hi; omega
  refine ⟨_, run_beginRound hr1 lpr.st, ?_⟩
  generalize hw1' : w1.putObj r (.loop { rc with state := .busy }) = w1' at *
  have hr1' : w1'.heap[r]? = some (.loop { rc with state := .busy }) := by rw [← hw1']; exact World.putObj_heap_same hr1lt
  have s1' : w1'.heap.size = w1.heap.size := by rw [← hw1']; simp
  have k1' : ∀ r', r' ≠ r → w1'.heap[r']? = w1.heap[r']? := fun r' h => by rw [← hw1']; exact World.putObj_heap_other h
  have S1 : Stands ρ1 lam1 ⟨s1.fr, s1.L, s1.H.set b .dead⟩ a1 w1' := by
    rw [← hw1']
    exact ⟨hst1.fr, hst1.H.putL hρ1 hb1 _, hst1.L.putL hlam1⟩
  refine wpIn_mono (code_sim (r := some r) (glob := glob) (nt := nt) hm hcall hc n rc.body vb _ s .normal ρ1 lam1 a1 w1' hvb h2 (by rw [hz]; exact hsz) S1 (g1.freeR (lo := (s1.H.set b .dead).length) (by simp) (fun i q1 q2 => hfR i (by simp at q1; omega) q2)) (g1.freeL (Nat.le_refl _) (fun i _ _ => rfl)) (fun t ht => noL he2 ht)) ?_
  rintro e' a2 w2 ⟨rfl, ms2, _, hz2, ρ2, lam2, hst2, g2, _⟩
  have gs1 := g1.size
  have gs2 := g2.size
  have hr2 : w2.heap[r]? = some (.loop { rc with state := .busy }) := by
    rw [g2.keep r (by omega) (not_open S1.H hr1' nc.1 nc.2) (fun i _ => hlam1 i)]; exact hr1'
  have hr2lt : r < w2.heap.size := (Array.getElem?_eq_some_iff.1 hr2).1
  have hend := run_endRound (P := P) none hr2
  have erc : ({ state := if (none : Option Code).isNone = true then .ready else .done, pending := none, fn := rc.fn, tmps := rc.tmps, params := rc.params, assign := rc.assign, body := rc.body, defers := rc.defers } : Go.Loop) = rc := by
    have e1 := lpr.st
    have e2 := lpr.pe
    cases rc
    simp only at e1 e2
    subst e1 e2
    rfl
  have hend : (Instr.endRound r none).run P w2 = .ok (.bool true) (w2.putObj r (.loop rc)) := by
    rw [hend]
    show Result.ok (Value.bool true) (w2.putObj r (.loop { state := if (none : Option Code).isNone = true then .ready else .done, pending := none, fn := rc.fn, tmps := rc.tmps, params := rc.params, assign := rc.assign, body := rc.body, defers := rc.defers })) = _
    rw [erc]
  have hρ2 : ρ2 b = some (r, oo, c) := by rw [g2.extR b (Or.inl (by simp; omega))]; exact hρ1
  have le1 := g1.leR (fun i q1 q2 => hfR i q1 (by omega))
  have le2 := g2.leR (g1.freeR (lo := (s1.H.set b .dead).length) (by simp) (fun i q1 q2 => hfR i (by simp at q1; omega) q2))
  have own_set : ∀ b2, OwnAt (s1.H.set b .dead) b2 → OwnAt s1.H b2 := by
    rintro b2 ⟨x, hx, hox⟩
    by_cases e : b = b2
    · subst e
      rw [List.getElem?_set_self (by omega)] at hx
      cases hx; cases hox
    · rw [List.getElem?_set_ne e] at hx
      exact ⟨x, hx, hox⟩
  have open_set : ∀ r', Open lim ρ1 (s1.H.set b .dead) r' → Open lim ρ1 s1.H r' := by
    rintro r' ⟨b2, o2, c2, q1, q2, q3⟩
    exact ⟨b2, o2, c2, q1, own_set b2 q2, q3⟩
  refine ⟨_, _, hend, ρ2, rfl, rfl, ?_, hst2.H.backL hr2 rfl hρ2 (by omega) (lpr.mono fun b x h => le2 b x (le1 b x h))⟩
  have os1 : w1'.os = w1.os ∧ w1'.tape = w1.tape ∧ w1'.output = w1.output := by rw [← hw1']; exact ⟨rfl, rfl, rfl⟩
  refine ⟨(g2.os.trans os1.1).trans g1.os, (g2.tape.trans os1.2.1).trans g1.tape, (g2.output.trans os1.2.2).trans g1.output, by simp; omega, by simp; omega, Nat.le_refl _, fun b2 hb2 => ?_, fun _ _ => rfl, fun b2 r' o2 c2 p1 p2 p3 => ?_, fun i r' p1 p2 => absurd p2 (by simp), fun r' hr' ho _ => ?_, fun b2 hb2 ho => ?_⟩
  · simp only [List.length_set] at hb2
    rw [g2.extR b2 (by show b2 < (s1.H.set b .dead).length ∨ s.H.length ≤ b2; simp only [List.length_set]; omega), g1.extR b2 (by show b2 < H.length ∨ s1.H.length ≤ b2; omega)]
  · simp only [List.length_set] at p2
    by_cases q : b2 < s1.H.length
    · rw [g2.extR b2 (Or.inl (by simpa using q))] at p3
      exact g1.newR b2 r' o2 c2 p1 q p3
    · rcases g2.newR b2 r' o2 c2 (by simp; omega) p2 p3 with h5 | h5
      · left; omega
      · by_cases q2 : r' < w.heap.size
        · exact Or.inr (Open.back g1 q2 (open_set r' h5))
        · left; omega
  · by_cases e : r' = r
    · subst e
      rw [World.putObj_heap_same hr2lt, hr]
    · rw [World.putObj_heap_other e, g2.keep r' (by omega) (fun h => ho (Open.back g1 hr' (open_set r' h))) (fun i _ h => by have := newlam i r' h; omega), k1' r' e, g1.keep r' hr' ho (fun _ _ => by simp)]
  · obtain ⟨x, hx, hox⟩ := ho
    by_cases e : b = b2
    · subst e
      rw [List.getElem?_set_self (by omega)] at hx
      cases hx; cases hox
    · rw [List.getElem?_set_ne e] at hx
      exact g1.own b2 hb2 (own_set b2 (g2.own b2 (by simp; omega) ⟨x, hx, hox⟩))

theorem primOf_slim {P : Program} {glob : List Nat} {nt : Nat} {c : Code} {vc : VCode} (h : slimCode P glob nt c = some vc) : primOf vc = none := by
  cases vc <;> first | rfl | skip
  exfalso
  cases c <;> simp only [slimCode] at h
  all_goals repeat' (split at h)
  all_goals first | (cases h; done) | (simp only [Option.map_eq_some_iff] at h; obtain ⟨_, _, h⟩ := h; cases h; done) | skip
/-- values that stand for themselves, wherever they are -/
def flatV : V → Bool
  | .bool _ | .int _ _ | .str _ | .inil | .snil | .fnil | .pnil => true
  | .func (.func _) [] [] => true
  | _ => false
def flatT : V → Bool
  | .tup vs => vs.all flatV
  | v => flatV v
/-- a contract that leaves the heap alone -/
def flatP (chk : Hp → Bool) (g : List V → Option V) : PrimF := fun args H => if chk H && args.all flatV then match g args with
  | some v => if flatT v then some (v, []) else none
  | none => none else none
theorem Grow.of_below {lim : Nat} {tg : Nat → Prop} {ρ : Loc} {lam : Lam} {L : Lo} {H : Hp} {w w' : World} (h : RowKit.Below w.heap.size w w') : Grow lim tg ρ lam L H w ρ lam L H w' :=
  ⟨h.os, h.tape, h.output, h.size, Nat.le_refl _, Nat.le_refl _, fun _ _ => rfl, fun _ _ => rfl, fun b _ _ _ h1 h2 => absurd h2 (by omega), fun i _ h1 h2 => absurd h2 (by omega), fun r hr _ _ => h.block r hr, fun _ _ h => h⟩
theorem primOk_flat {P : Program} {f : FuncId} {chk : Hp → Bool} {g : List V → Option V} (hb : bodied P f = true)
    (h : ∀ (args : List V) (H : Hp) (v : V) (ρ : Loc) (w : World) (xs : Array Value), args.all flatV = true → g args = some v → chk H = true → RelH ρ H w → GRel ρ → VRs ρ args xs.toList → Calls P f xs w fun e w' => ∃ x, e = .returned x ∧ VR ρ v x ∧ RowKit.Below w.heap.size w w') : PrimOk P f (flatP chk g) := by
  refine ⟨hb, fun lim args H v bs ρ w xs hg hH hG hx hf => ?_⟩
  unfold flatP at hg
  split at hg
  case isFalse => cases hg
  rename_i hc
  simp only [Bool.and_eq_true] at hc
  split at hg
  case h_2 => cases hg
  rename_i v' hv
  split at hg
  case isFalse => cases hg
  cases hg
  refine (h args H v ρ w xs hc.2 hv hc.1 hH hG hx).mono ?_
  rintro e w' ⟨x, he, hvx, hbl⟩
  rw [List.append_nil]
  exact ⟨x, ρ, he, hvx, .of_below hbl, hH.keep hbl.size hbl.block⟩
theorem evFn_ok (hm : P.follows .mixedOrders = true) {T : Tbl} (hT : TblOk P T) : ∀ n, CallOk P (evFn T n)
  | 0 => fun lim f args H v H' h => by simp [evFn] at h
  | n + 1 => fun lim f args H v H' h => by
    refine ⟨fun hy => ?_, fun hy => ?_⟩
    · simp only [evFn, if_neg hy] at h
      split at h
      · cases h
      rename_i hrb
      split at h
      · cases h
      rename_i vf hvf
      rcases hT f vf hvf with ⟨hlt, fn, glob, hfn, hsl, hrd⟩ | ⟨hge, _⟩ | ⟨_, g, hpg, hok⟩ | ⟨_, hpn, hok⟩
      case inr.inl => exact absurd hge hrb
      case inr.inr.inr =>
        simp only [hpn] at h
        split at h
        case isFalse => cases h
        rename_i hlen
        split at h
        · cases h
        · rename_i e s hne he
          split at h
          case h_2 => cases h
          rename_i v' hv'
          simp only [Option.some.injEq, Prod.mk.injEq] at h
          obtain ⟨rfl, rfl⟩ := h
          refine ⟨hok.1, fun ρ w xs hH hG hxs hfR => hok.2 _ n lim args H _ s e (evFn_ok hm hT n) (evFn_ext T n) hlen he ?_ hv' ρ w xs hH hG hxs hfR⟩
          cases e with
          | normal => exact Or.inl rfl
          | ret => exact Or.inr rfl
          | exit id => exact (hne id rfl).elim
        · cases h
      case inr.inr.inl =>
        simp only [hpg] at h
        split at h
        case isFalse => cases h
        split at h
        case h_2 => cases h
        rename_i v' bs hg
        cases h
        exact ⟨hok.1, fun ρ w xs hH hG hxs hfR => hok.2 lim args H _ bs ρ w xs hg hH hG hxs hfR⟩
      split at h
      case isFalse => cases h
      rename_i hlen
      unfold slimFn at hsl
      split at hsl
      · cases hsl
      rename_i c hbody
      split at hsl
      case isFalse => cases hsl
      rename_i hnt
      split at hsl
      case h_2 => cases hsl
      rename_i rs vc hrs hvc
      cases hsl
      have hnp : primOf vc = none := primOf_slim hvc
      simp only [hnp] at h hlen
      refine ⟨by simp [bodied, hfn, hbody, hnt.2], fun ρ w xs hH hG hxs hfR => ?_⟩
      have hxl : xs.size = args.length := by
        have := hxs.1
        simp at this; omega
      have hR : ∀ t ∈ rsOf c, (none : Option Nat) = none ∧ ∀ f', rMark glob = some f' → rdOf theP f' = some t := by
        intro t ht
        refine ⟨rfl, fun f' hf' => ?_⟩
        exact rd_of hfn hbody hrd ht hf'
      have hend : ∀ (e : VExit) (s : St), evCode (evFn T n) lim n vc ⟨fr0 args, [], H⟩ = some (e, s) → (e = .normal ∨ e = .ret) → vres rs s.fr s.L s.H = some v → s.H = H' → Calls P f xs w fun e w' => ∃ x ρ', e = .returned x ∧ VR ρ' v x ∧ Grow lim (fun _ => True) ρ (fun _ => none) [] H w ρ' (fun _ => none) [] H' w' ∧ RelH ρ' H' w' := by
        intro e s he hee hv hsH
        subst hsH
        refine (callsIn_wide (n := 0)).1 (callsIn_of_wp_marks (F := rF none) hfn hbody trivial (wpIn_mono (code_sim (r := none) (glob := glob) (nt := fn.ntmps) hm (evFn_ok hm hT n) (evFn_ext T n) n c vc _ s e ρ (fun _ => none) _ w hvc he ?_ (start_stands hH hG hxs _) hfR (fun i _ _ => rfl) hR) ?_))
        · simp; omega
        · rintro e' a' w' ⟨rfl, ms, hd, hz, ρ', lam', hst, g, hmk⟩
          have hd' : a'.defers = ms.map mkD := by simpa using hd
          have key : LeavesInM (rF none) 0 P fn a'.tmps (fun e w' => ∃ x ρ', e = .returned x ∧ VR ρ' v x ∧ Grow lim (fun _ => True) ρ (fun _ => none) [] H w ρ' (fun _ => none) [] s.H w' ∧ RelH ρ' s.H w') a'.defers .returning w' := by
            rw [hd']
            refine leaves_marks ms w' hmk hst.H hst.L fun w'' p1 p2 p3 p4 p5 p6 p7 => ?_
            obtain ⟨x, hx1, hx2⟩ := results_rel (w := w'') ⟨hst.fr, p1, p2⟩ hrs hv
            exact ⟨x, hx1, x, ρ', rfl, hx2, ⟨p3.trans g.os, p4.trans g.tape, p5.trans g.output, by rw [p6]; exact g.size, g.lenH, Nat.le_refl _, g.extR, fun _ _ => rfl, g.newR, fun i r _ h2 => absurd h2 (by simp), fun r hr ho ht => (p7 r hr).trans (g.keep r hr ho ht), g.own⟩, p1⟩
          rcases hee with rfl | rfl <;> exact key
      split at h
      · cases h
      · rename_i e s hne he
        split at h
        case h_2 => cases h
        rename_i v' hv'
        simp only [Option.some.injEq, Prod.mk.injEq] at h
        obtain ⟨rfl, hH'⟩ := h
        refine hend e s he ?_ hv' hH'
        cases e with
        | normal => exact Or.inl rfl
        | ret => exact Or.inr rfl
        | exit id => exact (hne id rfl).elim
      · cases h
    · subst hy
      intro b ys ρ w r oo c xs hargs hρ hH hG hxs hfR
      have h : evYield T (evFn T n) n lim H args = some (v, H') := by
        simp only [evFn] at h
        rw [if_pos trivial] at h
        exact h
      have ihn := evFn_ok hm hT n
      obtain ⟨b', xs', f, ps, fr, vf, x, y, s1, f1, ps1, fr1, s, ha, hb, hl, hlen, hvf, hnp, hbody, h1, hb1, h2, hd, rfl, rfl, _⟩ := evYield_spec h
      rw [hargs] at ha
      cases ha
      obtain ⟨rc, hr, lpr⟩ := hH.mp.entL b r oo c f ps fr hρ hb
      have hge : rB ≤ f := rdAt_le lpr.rd
      rcases hT f vf hvf with ⟨hlt, _⟩ | ⟨_, hP, fn, glob, hsl⟩ | ⟨hlt, _⟩ | ⟨hlt, _⟩
      · exact absurd hge (Nat.not_le.2 hlt)
      rotate_left
      · exact absurd hge (Nat.not_le.2 hlt)
      · exact absurd hge (Nat.not_le.2 hlt)
      subst hP
      unfold slimRd at hsl
      rw [lpr.rd] at hsl
      simp only at hsl
      split at hsl
      case isFalse => cases hsl
      rename_i hemp
      split at hsl
      case h_2 => cases hsl
      rename_i va vb hva hvb
      cases hsl
      simp only at hnp hbody
      cases hbody
      simp only [Bool.and_eq_true, List.isEmpty_iff] at hemp
      have hxs2 : xs.size = rc.params.size := by
        have e1 := hxs.1
        have e2 : ps.length = rc.params.toList.length := by rw [lpr.ps]
        simp at e1 e2; omega
      refine ⟨rc, hr, hxs2, fun r0 => ?_⟩
      exact round_ok hm ihn (evFn_ext T n) hva hvb hemp.1 hemp.2 hnp hb hl h1 hb1 h2 hd hρ hr lpr hH hG hxs hfR

end
end Go.Proofs.YtpdnbmnnkefedaaGreatDoor.Vm
