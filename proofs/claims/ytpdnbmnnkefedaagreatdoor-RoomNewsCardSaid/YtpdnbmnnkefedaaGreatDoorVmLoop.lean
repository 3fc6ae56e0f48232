/- Records of loops over functions: laid, called, put away. -/
import Derived.Test.YtpdnbmnnkefedaaGreatDoorVmInc
import Derived.RangeFuncRecord
namespace Go.Proofs.YtpdnbmnnkefedaaGreatDoor.Vm
open Go
set_option linter.unusedVariables false
set_option linter.unusedSimpArgs false
section
variable {lim : Nat} {A tg : Nat → Prop} {ρ : Loc} {lam : Lam} {L : Lo} {H : Hp} {w w' : World} {f : FuncId} {ps : List Nat} {fr : List V} {rc : Go.Loop}
theorem RelH.pushL (hH : RelH ρ H w) (hf : ρ H.length = none) (hsz : w.heap.size < w'.heap.size) (hk : ∀ r, r < w.heap.size → w'.heap[r]? = w.heap[r]?) (hn : w'.heap[w.heap.size]? = some (.loop rc)) (hlp : LpR ρ f ps fr rc) :
    RelH (ρ.add H.length (w.heap.size, 0, 0)) (H ++ [.loop f ps fr]) w' := by
  have hle := Loc.add_le (x := (w.heap.size, 0, 0)) hf
  have hback : ∀ b x, (ρ.add H.length (w.heap.size, 0, 0)) b = some x → (b = H.length ∧ x = (w.heap.size, 0, 0)) ∨ (b ≠ H.length ∧ ρ b = some x) := by
    intro b x hb
    unfold Loc.add at hb
    split at hb
    · rename_i e; exact Or.inl ⟨e, (Option.some.inj hb).symm⟩
    · rename_i e; exact Or.inr ⟨e, hb⟩
  have hget : ∀ (b : Nat) (x : Blk), (H ++ [Blk.loop f ps fr])[b]? = some x → (b = H.length ∧ x = .loop f ps fr) ∨ (b ≠ H.length ∧ H[b]? = some x) := by
    intro b x hb
    by_cases hlt : b < H.length
    · rw [List.getElem?_append_left hlt] at hb; exact Or.inr ⟨by omega, hb⟩
    · have := (List.getElem?_eq_some_iff.1 hb).1
      have e : b = H.length := by simp at this; omega
      subst e
      rw [List.getElem?_concat_length] at hb
      exact Or.inl ⟨rfl, (Option.some.inj hb).symm⟩
  refine ⟨fun b r o c hb => ?_, fun b r o c cs own hb hr => ?_, fun b1 b2 r o1 c1 o2 c2 cs1 cs2 own2 h1 h2 hr1 hr2 => ?_, ⟨fun b r o c es hx hb hr => ?_, fun b1 b2 r o1 c1 o2 c2 e1 e2 hx1 hx2 h1 h2 hr1 hr2 => ?_⟩⟩
  · rcases hback _ _ hb with ⟨_, e⟩ | ⟨_, e⟩
    · cases e; exact hsz
    · exact Nat.lt_trans (hH.dom b r o c e) hsz
  · rcases hget _ _ hr with ⟨_, e⟩ | ⟨hne, e⟩
    · cases e
    · rcases hback _ _ hb with ⟨e', _⟩ | ⟨_, e'⟩
      · exact absurd e' hne
      · obtain ⟨C, el, fz, g1, g2, g3, g4, g5⟩ := hH.row b r o c cs own e' e
        exact ⟨C, el, fz, by rw [hk r (hH.dom b r o c e')]; exact g1, g2, g3, g4, g5.mono hle⟩
  · rcases hget _ _ hr1 with ⟨_, e⟩ | ⟨n1, q1⟩
    · cases e
    rcases hget _ _ hr2 with ⟨_, e⟩ | ⟨n2, q2⟩
    · cases e
    rcases hback _ _ h1 with ⟨e1, _⟩ | ⟨_, p1⟩
    · exact absurd e1 n1
    rcases hback _ _ h2 with ⟨e2, _⟩ | ⟨_, p2⟩
    · exact absurd e2 n2
    exact hH.inj b1 b2 r o1 c1 o2 c2 cs1 cs2 own2 p1 p2 q1 q2
  · rcases hback _ _ hb with ⟨e1, x1⟩ | ⟨n1, p1⟩
    · cases x1
      rcases hget _ _ hr with ⟨_, e⟩ | ⟨n2, _⟩
      · cases e; exact ⟨_, hn, hlp.mono hle⟩
      · exact absurd e1 n2
    · rcases hget _ _ hr with ⟨e, _⟩ | ⟨_, q1⟩
      · exact absurd e n1
      · obtain ⟨ob, g1, g2⟩ := hH.mp.ent b r o c es hx p1 q1
        exact ⟨ob, by rw [hk r (hH.dom b r o c p1)]; exact g1, g2.mono hle⟩
  · rcases hback _ _ h1 with ⟨e1, x1⟩ | ⟨n1, p1⟩ <;> rcases hback _ _ h2 with ⟨e2, x2⟩ | ⟨n2, p2⟩
    · omega
    · cases x1; have := hH.dom b2 _ _ _ p2; omega
    · cases x2; have := hH.dom b1 _ _ _ p1; omega
    · rcases hget _ _ hr1 with ⟨e, _⟩ | ⟨_, q1⟩
      · exact absurd e n1
      rcases hget _ _ hr2 with ⟨e, _⟩ | ⟨_, q2⟩
      · exact absurd e n2
      exact hH.mp.inj b1 b2 r o1 c1 o2 c2 e1 e2 hx1 hx2 p1 p2 q1 q2
/-- the record of a block that is dead -/
theorem RelH.putL {b r o c : Nat} (hH : RelH ρ H w) (hb : ρ b = some (r, o, c)) (hlp : H[b]? = some (.loop f ps fr)) (rc' : Go.Loop) : RelH ρ (H.set b .dead) (w.putObj r (.loop rc')) := by
  obtain ⟨rc, hr, _⟩ := hH.mp.entL b r o c f ps fr hb hlp
  have hlt : b < H.length := (List.getElem?_eq_some_iff.1 hlp).1
  have hk : ∀ r', r' ≠ r → (w.putObj r (.loop rc')).heap[r']? = w.heap[r']? := fun r' h => World.putObj_heap_other h
  have hget : ∀ (b' : Nat) (x : Blk), (H.set b .dead)[b']? = some x → (b' = b ∧ x = .dead) ∨ (b' ≠ b ∧ H[b']? = some x) := by
    intro b' x h
    by_cases e : b = b'
    · subst e; rw [List.getElem?_set_self hlt] at h; exact Or.inl ⟨rfl, (Option.some.inj h).symm⟩
    · rw [List.getElem?_set_ne e] at h; exact Or.inr ⟨fun e' => e e'.symm, h⟩
  refine ⟨fun b' r' o' c' h => by simpa using hH.dom b' r' o' c' h, fun b' r' o' c' cs own h1 h2 => ?_, fun b1 b2 r' o1 c1 o2 c2 cs1 cs2 own2 h1 h2 k1 k2 => ?_, ⟨fun b' r' o' c' x hx h1 h2 => ?_, fun b1 b2 r' o1 c1 o2 c2 x1 x2 hx1 hx2 h1 h2 k1 k2 => ?_⟩⟩
  · rcases hget _ _ h2 with ⟨_, e⟩ | ⟨_, h2⟩
    · cases e
    obtain ⟨C, el, fz, g1, g2⟩ := hH.row b' r' o' c' cs own h1 h2
    exact ⟨C, el, fz, by rw [hk r' (fun e => by subst e; rw [hr] at g1; cases g1)]; exact g1, g2⟩
  · rcases hget _ _ k1 with ⟨_, e⟩ | ⟨_, k1⟩
    · cases e
    rcases hget _ _ k2 with ⟨_, e⟩ | ⟨_, k2⟩
    · cases e
    exact hH.inj b1 b2 r' o1 c1 o2 c2 cs1 cs2 own2 h1 h2 k1 k2
  · rcases hget _ _ h2 with ⟨_, e⟩ | ⟨hne, h2⟩
    · subst e; cases hx
    obtain ⟨ob, g1, g2⟩ := hH.mp.ent b' r' o' c' x hx h1 h2
    exact ⟨ob, by rw [hk r' (fun e => by subst e; exact hne (hH.mp.inj b' b r' o' c' o c x _ hx rfl h1 hb h2 hlp))]; exact g1, g2⟩
  · rcases hget _ _ k1 with ⟨_, e⟩ | ⟨_, k1⟩
    · subst e; cases hx1
    rcases hget _ _ k2 with ⟨_, e⟩ | ⟨_, k2⟩
    · subst e; cases hx2
    exact hH.mp.inj b1 b2 r' o1 c1 o2 c2 x1 x2 hx1 hx2 h1 h2 k1 k2
theorem RelL.putL {r : Nat} {ob : Obj} (hL : RelL A ρ lam L w) (hn : ∀ i, lam i ≠ some r) : RelL A ρ lam L (w.putObj r ob) :=
  ⟨fun i r' h => by simpa using hL.dom i r' h, hL.inj, hL.disj, fun i r' cs ha h1 h2 => (hL.row i r' cs ha h1 h2).keep (World.putObj_heap_other fun e => hn i (e ▸ h1))⟩
end
/-- the mark of a loop over a function among the deferred calls -/
def mkD (r : Nat) : Deferred := { target := .collected r, args := #[] }
/-- the blocks of such marks: nothing was deferred -/
def MkOk (lo : Nat) (ms : List Nat) (lam : Lam) (w : World) : Prop := ms.Nodup ∧ ∀ r ∈ ms, lo ≤ r ∧ w.heap[r]? = some (.deferred (some [])) ∧ ∀ i, lam i ≠ some r
theorem MkOk.nil {lo : Nat} {lam : Lam} {w : World} : MkOk lo [] lam w := ⟨.nil, fun r h => by simp at h⟩
theorem not_open {lim : Nat} {ρ : Loc} {H : Hp} {w : World} (hH : RelH ρ H w) {r : Nat} {ob : Obj} (hr : w.heap[r]? = some ob) (h1 : ∀ C el fz, ob ≠ .cells C el fz) (h2 : (∀ es clk, ob ≠ .map es clk) ∧ ∀ s p, ob ≠ .stringIter s p) : ¬ Open lim ρ H r := by
  rintro ⟨b, o, c, _, ⟨x, hx, hox⟩, hρ⟩
  cases x with
  | row cs own =>
    obtain ⟨C, el, fz, g, _⟩ := hH.row b r o c cs own hρ hx
    rw [hr] at g; cases g; exact h1 _ _ _ rfl
  | map es =>
    obtain ⟨es', clk, g, _⟩ := hH.mp.entM b r o c es hρ hx
    rw [hr] at g; cases g; exact h2.1 _ _ rfl
  | sit s p =>
    have g := hH.mp.entI b r o c s p hρ hx
    rw [hr] at g; cases g; exact h2.2 _ _ rfl
  | dead => cases hox
  | loop _ _ _ => cases hox
theorem MkOk.keep {lim lo : Nat} {ρ ρ' : Loc} {lam lam' : Lam} {L L' : Lo} {H H' : Hp} {w w' : World} {tg : Nat → Prop} {ms : List Nat} (h : MkOk lo ms lam w) (hH : RelH ρ H w) (g : Grow lim tg ρ lam L H w ρ' lam' L' H' w') : MkOk lo ms lam' w' := by
  refine ⟨h.1, fun r hr => ?_⟩
  obtain ⟨h0, h1, h2⟩ := h.2 r hr
  have hlt : r < w.heap.size := (Array.getElem?_eq_some_iff.1 h1).1
  refine ⟨h0, by rw [g.keep r hlt (not_open hH h1 (fun _ _ _ e => by cases e) ⟨fun _ _ e => (by cases e), fun _ _ e => (by cases e)⟩) (fun i _ => h2 i)]; exact h1, fun i hi => ?_⟩
  by_cases hn : i < L.length ∨ L'.length ≤ i
  · rw [g.extL i hn] at hi; exact h2 i hi
  · have := g.newL i r (by omega) (by omega) hi; omega
theorem MkOk.app {lo lo2 : Nat} {lam : Lam} {w : World} {ms ms2 : List Nat} (h : MkOk lo ms lam w) (h2 : MkOk lo2 ms2 lam w) (hl : lo ≤ lo2) (hd : ∀ r ∈ ms, r < lo2) : MkOk lo (ms2 ++ ms) lam w := by
  refine ⟨List.nodup_append.2 ⟨h2.1, h.1, fun a ha b hb e => ?_⟩, fun r hr => ?_⟩
  · have := hd b hb; have := (h2.2 a ha).1; omega
  · rcases List.mem_append.1 hr with hr | hr
    · obtain ⟨a, b⟩ := h2.2 r hr; exact ⟨by omega, b⟩
    · exact h.2 r hr

section
variable {P : Program} {call : CallFn} {lim : Nat} {ρ : Loc} {lam : Lam} {s s2 : St} {a : Act} {w : World}
theorem hide_lpr {nt : Nat} {f : FuncId} {ps : Array Tmp} {asg bd : Code} {rc : Go.Loop} (hF : FRel ρ lam s.fr a.tmps) (hnt : nt = a.tmps.size) (hrd : rdOf theP f = some (ps, asg, bd)) (h1 : rc.state = .ready) (h2 : rc.pending = none)
    (h3 : rc.tmps = a.tmps) (h4 : rc.params = ps) (h5 : rc.assign = asg) (h6 : rc.body = bd) : LpR ρ f ps.toList (hideF s.fr nt) rc := by
  refine ⟨h1, h2, by rw [hrd, h4, h5, h6], by rw [h4], by rw [h3]; simp [hideF, hnt], fun t ht => ?_⟩
  have ht : t < nt := by simpa [hideF] using ht
  have e : (hideF s.fr nt).getD t dv = if Vm.stor (s.fr t) then s.fr t else .hid := by
    simp [hideF, List.getD_eq_getElem?_getD, ht]
  have hf := hF.fv t
  rw [e, h3]
  by_cases hs : Vm.stor (s.fr t) = true
  · rw [if_pos hs]
    exact Or.inr (hf.stor hs)
  · rw [if_neg hs]
    refine Or.inl ⟨rfl, fun b hb => ?_⟩
    rw [hb] at hf
    generalize s.fr t = q at *
    rcases hf with h | h | h
    · cases h; exact hs rfl
    · exact h b rfl
theorem rF_room {r : Option Nat} {n : Nat} (h : (rF r).depth.isSome = true) : 1 ≤ n := by cases h
theorem range_sim {nt n : Nat} {g : Operand} {ps : Array Tmp} {asg bd : Code} {vg : Opd} {f : FuncId} {e : VExit} (hcall : CallOk P call) (hc : CallExt call) (hvg : slimOpd g = some vg) (hrd : rdOf theP f = some (ps, asg, bd))
    (he : evCode call lim (n + 1) (.rangeF vg f ps.toList nt) s = some (e, s2)) (hnt : nt = a.tmps.size) (hst : Stands ρ lam s a w) (hfR : FreeR ρ s.H.length s2.H.length) :
    (Code.rangeFunc g ps asg bd).wpIn (rF none) 0 P (fun e' a' w' => e' = .normal ∧ e = .normal ∧ a' = { a with defers := mkD w.heap.size :: a.defers } ∧ ∃ ρ', Stands ρ' lam s2 a' w' ∧ Grow lim (fun _ => True) ρ lam s.L s.H w ρ' lam s2.L s2.H w' ∧ MkOk w.heap.size [w.heap.size] lam w') a w := by
  simp only [evCode] at he
  split at he
  case h_2 => cases he
  rename_i h fs cs hq
  split at he
  · cases he
  rename_i hny
  split at he
  case h_2 => cases he
  rename_i v H2 hcl
  split at he
  case h_2 => cases he
  rename_i f2 ps2 fr2 hb2
  cases he
  have hX := opd_rel hvg hst.fr
  rw [hq] at hX
  generalize hxe : a.eval g = xe at *
  obtain ⟨x1, x2⟩ := hc _ _ _ _ _ _ hcl
  simp only [List.length_append, List.length_cons, List.length_nil] at x1
  rcases hX with hX | hX | hX
  cases hX with
  | func h1 h2 h3 h4 =>
    rename_i fs' cs'
    have hf0 : ρ s.H.length = none := hfR _ (Nat.le_refl _) (by simp; omega)
    obtain ⟨w0, hw0⟩ : ∃ w0, w.alloc (.deferred (some [])) = w0 := ⟨_, rfl⟩
    have s0 : w0.heap.size = w.heap.size + 1 := by rw [← hw0]; simp
    have k0 : ∀ r, r < w.heap.size → w0.heap[r]? = w.heap[r]? := fun r hr => by rw [← hw0]; exact heap_alloc_old w _ r hr
    have n0 : w0.heap[w.heap.size]? = some (.deferred (some [])) := by rw [← hw0]; exact heap_alloc_new w _
    refine wpIn_rangeFunc fun fn _ => ?_
    obtain ⟨rc, hrc⟩ : ∃ rc : Go.Loop, rc = { state := .ready, pending := none, fn, tmps := a.tmps, params := ps, assign := asg, body := bd, defers := w.heap.size } := ⟨_, rfl⟩
    obtain ⟨W1, hW1⟩ : ∃ W1, w0.alloc (.loop rc) = W1 := ⟨_, rfl⟩
    have s1 : W1.heap.size = w0.heap.size + 1 := by rw [← hW1]; simp
    have k1 : ∀ r, r < w0.heap.size → W1.heap[r]? = w0.heap[r]? := fun r hr => by rw [← hW1]; exact heap_alloc_old w0 _ r hr
    have n1 : W1.heap[w0.heap.size]? = some (.loop rc) := by rw [← hW1]; exact heap_alloc_new w0 _
    have hlp : LpR ρ f ps.toList (hideF s.fr nt) rc := hide_lpr hst.fr hnt hrd (by rw [hrc]) (by rw [hrc]) (by rw [hrc]) (by rw [hrc]) (by rw [hrc]) (by rw [hrc])
    have H0 : RelH ρ s.H w0 := hst.H.keep (by omega) k0
    have L0 : RelL (fun _ => True) ρ lam s.L w0 := hst.L.keep (by omega) k0
    have R1 : RelH (ρ.add s.H.length (w0.heap.size, 0, 0)) (s.H ++ [.loop f ps.toList (hideF s.fr nt)]) W1 := H0.pushL hf0 (by omega) k1 n1 hlp
    have L1 : RelL (fun _ => True) (ρ.add s.H.length (w0.heap.size, 0, 0)) lam s.L W1 := L0.pushH hf0 (by omega) k1
    have hle := Loc.add_le (x := (w0.heap.size, 0, 0)) hf0
    have hρb : (ρ.add s.H.length (w0.heap.size, 0, 0)) s.H.length = some (w0.heap.size, 0, 0) := by simp [Loc.add]
    have hρo : ∀ b, b ≠ s.H.length → (ρ.add s.H.length (w0.heap.size, 0, 0)) b = ρ b := fun b hb => by unfold Loc.add; rw [if_neg hb]
    generalize ρ.add s.H.length (w0.heap.size, 0, 0) = ρ1 at *
    have hvs : VRs ρ1 (fs ++ [.yl s.H.length] ++ cs) (fs' ++ #[Value.func (.yield w0.heap.size) #[] #[]] ++ cs').toList := by
      have v1 : VRs ρ fs fs'.toList := ⟨by simpa using h1, fun i hi => by have := h2 i hi; simpa [List.getD_eq_getElem?_getD, Array.getD_eq_getD_getElem?] using this⟩
      have v2 : VRs ρ cs cs'.toList := ⟨by simpa using h3, fun i hi => by have := h4 i hi; simpa [List.getD_eq_getElem?_getD, Array.getD_eq_getD_getElem?] using this⟩
      have := ((v1.mono hle).append (VRs.nil.cons (.yl hρb))).append (v2.mono hle)
      simpa using this
    have hb := ((hcall _ _ _ _ _ _ hcl).1 hny).1
    have hcalls := ((hcall _ _ _ _ _ _ hcl).1 hny).2 ρ1 W1 _ R1 (hst.fr.gl.mono hle) hvs (fun b g1 g2 => by
      simp only [List.length_append, List.length_cons, List.length_nil] at g1
      rw [hρo b (by omega)]
      exact hfR b (by omega) (by simpa using g2))
    refine ⟨w0.heap.size, [mkD w.heap.size], W1, { target := .fn (.func h) cs', args := fs' ++ #[Value.func (.yield w0.heap.size) #[] #[]] }, W1, h, fs' ++ #[Value.func (.yield w0.heap.size) #[] #[]] ++ cs', W1, ?_, ?_, fun _ _ => trivial, ?_, rF_room, callsIn_rF (hcalls.mono ?_)⟩
    · rw [← hW1, ← hw0, hrc, World.size_alloc]; exact run_enterLoop_outer _ _ _ _ _
    · simp only [resolve, rangeCall, hxe]
      simp [go_sem]
    · unfold bodied at hb
      split at hb
      case h_2 => cases hb
      rename_i fn' hfn'
      simp only [Bool.and_eq_true, Bool.not_eq_true', beq_eq_false_iff_ne, ne_eq] at hb
      obtain ⟨body, hbody⟩ := Option.isSome_iff_exists.1 hb.2
      simp [invoke, callFunc, hfn', hb.1, hbody]
    · rintro ee w3 ⟨x, ρ', rfl, hv, gg, q⟩
      have hfR1 : FreeR ρ1 (s.H ++ [Blk.loop f ps.toList (hideF s.fr nt)]).length H2.length := fun b g1 g2 => by
        simp only [List.length_append, List.length_cons, List.length_nil] at g1
        rw [hρo b (by omega)]
        exact hfR b (by omega) (by simpa using g2)
      obtain ⟨q1, q2⟩ := L1.afterCall R1 hfR1 gg q
      have hρ' : ρ' s.H.length = some (w0.heap.size, 0, 0) := by rw [gg.extR _ (Or.inl (by simp))]; exact hρb
      have hle2 : ∀ b x, ρ b = some x → ρ' b = some x := fun b x hbx => gg.leR hfR1 b x (hle b x hbx)
      obtain ⟨rc3, g1, lpr⟩ := q.mp.entL s.H.length w0.heap.size 0 0 f2 ps2 fr2 hρ' hb2
      have hend := run_endLoop (P := P) g1 (by rw [lpr.st]; simp)
      rw [lpr.pe] at hend
      have hlam : ∀ i, lam i ≠ some w0.heap.size := fun i hi => by have := hst.L.dom i _ hi; omega
      have hopen : ∀ r, Open lim ρ1 (s.H ++ [Blk.loop f ps.toList (hideF s.fr nt)]) r → Open lim ρ s.H r := by
        rintro r ⟨b2, o, c, hl, ⟨y, hy, hoy⟩, hρ2⟩
        by_cases hb3 : b2 < s.H.length
        · rw [List.getElem?_append_left hb3] at hy
          rw [hρo b2 (by omega)] at hρ2
          exact ⟨b2, o, c, hl, ⟨y, hy, hoy⟩, hρ2⟩
        · have := (List.getElem?_eq_some_iff.1 hy).1
          have e : b2 = s.H.length := by simp at this; omega
          subst e
          rw [List.getElem?_concat_length] at hy
          cases hy; cases hoy
      have gs := gg.size
      refine ⟨none, _, hend, rfl, rfl, rfl, ρ', ⟨⟨fun t => (hst.fr.fv t).mono hle2 (fun _ _ h => h), hst.fr.gl.mono hle2⟩, q.putL hρ' hb2 _, q1.putL hlam⟩, ?_, ?_⟩
      · refine ⟨gg.os.trans (by rw [← hW1, ← hw0]; rfl), gg.tape.trans (by rw [← hW1, ← hw0]; rfl), gg.output.trans (by rw [← hW1, ← hw0]; rfl), by simp; omega, by simp; omega, Nat.le_refl _, fun b hb => ?_, fun _ _ => rfl, fun b r o c p1 p2 p3 => ?_, fun i r p1 p2 => absurd p2 (by simp only; omega), fun r hr ho _ => ?_, fun b hb ho => ?_⟩
        · rw [gg.extR b (by simp only [List.length_append, List.length_cons, List.length_nil, List.length_set] at hb ⊢; omega)]
          rcases hb with hb | hb
          · exact hρo b (by omega)
          · exact hρo b (by simp at hb; omega)
        · by_cases hb : b = s.H.length
          · subst hb; rw [hρ'] at p3; cases p3; left; omega
          · rcases gg.newR b r o c (by simp; omega) (by simpa using p2) p3 with h5 | h5
            · left; omega
            · exact Or.inr (hopen r h5)
        · rw [World.putObj_heap_other (by omega), gg.keep r (by omega) (fun h5 => ho (hopen r h5)) (fun _ _ => by simp), k1 r (by omega), k0 r hr]
        · obtain ⟨y, hy, hoy⟩ := ho
          simp only at hy
          rw [List.getElem?_set_ne (by omega)] at hy
          obtain ⟨z, hz, hoz⟩ := gg.own b (by simp; omega) ⟨y, hy, hoy⟩
          rw [List.getElem?_append_left hb] at hz
          exact ⟨z, hz, hoz⟩
      · refine ⟨by simp, fun r hr => ?_⟩
        have hr : r = w.heap.size := by simpa using hr
        subst hr
        have d1 : W1.heap[w.heap.size]? = some (.deferred (some [])) := by rw [k1 _ (by omega)]; exact n0
        refine ⟨Nat.le_refl _, ?_, fun i hi => by have := hst.L.dom i _ hi; omega⟩
        rw [World.putObj_heap_other (by omega), gg.keep _ (by omega) (not_open R1 d1 (fun _ _ _ e => by cases e) ⟨fun _ _ e => (by cases e), fun _ _ e => (by cases e)⟩) (fun _ _ => by simp)]
        exact d1
end
end Go.Proofs.YtpdnbmnnkefedaaGreatDoor.Vm
