/- Operation by operation, the third part: stores, slices' rows, append, copy. -/
import Derived.Test.YtpdnbmnnkefedaaGreatDoorVmOps2
import Derived.Laws.Append
namespace Go.Proofs.YtpdnbmnnkefedaaGreatDoor.Vm
open Go
set_option linter.unusedVariables false
set_option linter.unusedSimpArgs false

section
variable {P : Program} {lim : Nat} {tg A : Nat → Prop} {ρ : Loc} {lam : Lam} {L L' : Lo} {H H' : Hp} {w : World} {s : Sem Next} {fr : Fr} {a : Act}

theorem run_storeCells_fz (P : Program) (g o : Nat) (t : TypeId) {fz : Nat × Nat} : ∀ (vs : List Value) (i : Nat) (cur : Array Value) (w : World), w.heap[g]? = some (.cells cur t fz) → FzOk fz cur.size → o + i + vs.length ≤ cur.size → (∀ v ∈ vs, v.oneCell' = true) →
    (storeCells ⟨g, o, none⟩ vs i).run P w = .ok () (w.setRow g (cur.toList.take (o + i) ++ vs ++ cur.toList.drop (o + i + vs.length)).toArray)
  | [], i, cur, w, hg, hz, _, _ => by
    simp only [storeCells, List.append_nil, List.length_nil, Nat.add_zero, List.take_append_drop, Array.toArray_toList]
    rw [setRow_self w g cur t fz hg]
    rfl
  | v :: rest, i, cur, w, hg, hz, hl, h1 => by
    simp only [List.length_cons] at hl
    have e1 : (⟨g, o, none⟩ : Addr).add i = ⟨g, o + i, none⟩   := addr_add _ _ _
    have e2 : w.cell? ⟨g, o + i, none⟩ = some cur[o + i] := by simp [World.cell?, hg, show o + i < cur.size by omega]
    have e3 : w.frozen? ⟨g, o + i, none⟩ = false := by
      have := hz (o + i) (by omega)
      simp only [World.frozen?, hg, Bool.and_eq_false_imp, decide_eq_true_eq, decide_eq_false_iff_not]
      intro h h'; exact this ⟨h, h'⟩
    have e4 : (store (⟨g, o + i, none⟩ : Addr) v).run P w = .ok () (w.setRow g (cur.setIfInBounds (o + i) v)) := by
      rw [run_store P w _ v _ (h1 v (by simp)), e2]
      simp [e3, setCell_eq_setRow w g (o + i) cur t fz v hg]
    have ih := run_storeCells_fz P g o t rest (i + 1) (cur.setIfInBounds (o + i) v) (w.setRow g (cur.setIfInBounds (o + i) v)) (setRow_heap w g cur _ t fz hg) (by simpa using hz) (by simp; omega) (fun x hx => h1 x (by simp [hx]))
    simp only [storeCells, Sem.run_bind, e1, e4, Result.andThen_ok, ih, setRow_setRow]
    congr 3
    have e := list_seg_step cur.toList (o + i) v rest (by simp; omega)
    simpa [Array.toList_setIfInBounds, Nat.add_assoc] using e
theorem opds_map (Xs : Array Operand) (f : Operand → Value) : (Xs.map f).toList = Xs.toList.map f := by simp

/-- the world with one row written -/
theorem setRow_keep (w : World) (g : Nat) (cs : Array Value) : ∀ r, r ≠ g → (w.setRow g cs).heap[r]? = w.heap[r]? := fun r hr => setRow_other w g r cs hr

theorem RelH.write (h : RelH ρ H w) {b r o c : Nat} {cs cs' : List V} (hb : H[b]? = some (.row cs true)) (hρ : ρ b = some (r, o, c)) {C C' : Array Value} {el : TypeId}
    {fz : Nat × Nat} (hg : w.heap[r]? = some (.cells C el fz)) (hfz : FzOk fz C'.size) (hC : o + c ≤ C'.size) (hcs : cs'.length ≤ c) (hrow : RowAt ρ cs' C' o) : RelH ρ (H.set b (.row cs' true)) (w.setRow r C') := by
  have hlt : b < H.length := (List.getElem?_eq_some_iff.1 hb).1
  have hget : ∀ b' blk, (H.set b (Blk.row cs' true))[b']? = some blk → (b' = b ∧ blk = .row cs' true) ∨ (b' ≠ b ∧ H[b']? = some blk) := by
    intro b' blk hb'
    by_cases e : b' = b
    · subst e
      rw [List.getElem?_set_self hlt] at hb'
      exact Or.inl ⟨rfl, (Option.some.inj hb').symm⟩
    · rw [List.getElem?_set_ne (fun e' => e e'.symm)] at hb'
      exact Or.inr ⟨e, hb'⟩
  refine ⟨fun b' r' o' c' hb' => by simpa using h.dom b' r' o' c' hb', fun b' r' o' c' cs1 own hb' hr' => ?_, fun b1 b2 r' o1 c1 o2 c2 cs1 cs2 own2 h1 h2 hr1 hr2 => ?_,
    h.mp.of (fun b' es hx hb' => by rcases hget b' _ hb' with ⟨_, e⟩ | ⟨_, e⟩; cases e; cases hx; exact e) (fun _ _ _ _ => rfl) (fun _ _ h => h) fun b' r' o' c' es _ _ h2 h3 => setRow_other w r r' _ fun e => by subst e; obtain ⟨_, h4, h5⟩ := h3; rw [hg] at h4; cases h4; exact h5.nc⟩
  · rcases hget b' _ hr' with ⟨rfl, e⟩ | ⟨hne, e⟩
    · cases e
      rw [hρ] at hb'; cases hb'
      exact ⟨C', el, fz, setRow_heap w r C C' el fz hg, hC, hcs, fun _ => hfz, hrow⟩
    · have hrr : r' ≠ r := by
        intro e'; subst e'
        exact hne (h.inj b b' r' o c o' c' cs cs1 own hρ hb' hb e).symm
      obtain ⟨C1, el1, fz, g1, rest⟩ := h.row b' r' o' c' cs1 own hb' e
      exact ⟨C1, el1, fz, by rw [setRow_other w r r' C' hrr]; exact g1, rest⟩
  · have k1 : ∃ cs0, H[b1]? = some (.row cs0 true) := by
      rcases hget b1 _ hr1 with ⟨rfl, e⟩ | ⟨_, e⟩
      · exact ⟨cs, hb⟩
      · exact ⟨cs1, e⟩
    have k2 : ∃ cs0 own0, H[b2]? = some (.row cs0 own0) := by
      rcases hget b2 _ hr2 with ⟨rfl, e⟩ | ⟨_, e⟩
      · exact ⟨cs, true, hb⟩
      · exact ⟨cs2, own2, e⟩
    obtain ⟨cs0, k1⟩ := k1
    obtain ⟨cs00, own00, k2⟩ := k2
    exact h.inj b1 b2 r' o1 c1 o2 c2 cs0 cs00 own00 h1 h2 k1 k2

theorem own_set {b : Nat} {cs cs' : List V} (hb : H[b]? = some (.row cs true)) : ∀ b', b' < H.length → OwnAt (H.set b (.row cs' true)) b' → OwnAt H b' := by
  rintro b' hlt ⟨x, hx⟩
  by_cases e : b = b'
  · subst e; exact ⟨_, hb, rfl⟩
  · rw [List.getElem?_set_ne e] at hx; exact ⟨x, hx⟩

theorem size_rel {r o c : Nat} {b : Nat} {cs : List V} (hH : RelH ρ H w) (hρ : ρ b = some (r, o, c)) (hb : H[b]? = some (.row cs true)) :
    ∃ C el fz, w.heap[r]? = some (.cells C el fz) ∧ FzOk fz C.size ∧ o + c ≤ C.size ∧ cs.length ≤ c ∧ RowAt ρ cs C o := by
  obtain ⟨C, el, fz, h1, h2, h3, h4, h5⟩ := hH.row b r o c cs true hρ hb
  exact ⟨C, el, fz, h1, h4 rfl, h2, h3, h5⟩

/-- cells written into a longer array, at the row's place -/
theorem splice_at {cs xs : List V} {ys : List Value} {C : Array Value} {o off : Nat} (hrow : RowAt ρ cs C o) (hsz : o + cs.length ≤ C.size) (hx : VRs ρ xs ys) (hs : Scals xs) (hle : off + xs.length ≤ cs.length) :
    RowAt ρ (splice cs off xs) (C.toList.take (o + off) ++ ys ++ C.toList.drop (o + off + ys.length)).toArray o := by
  intro i hi
  rw [splice_length hle] at hi
  have hsc := splice_scal (fun i hi => (hrow i hi).2) hs off
  refine ⟨?_, hsc i (by rw [splice_length hle]; exact hi)⟩
  have hlen := hx.1
  have htl : (C.toList.take (o + off)).length = o + off := by simp; omega
  simp only [List.getD_eq_getElem?_getD, Array.getD_eq_getD_getElem?, List.getElem?_toArray, splice]
  by_cases h1 : i < off
  · have e1 : (cs.take off ++ xs ++ cs.drop (off + xs.length))[i]? = cs[i]? := by
      rw [List.append_assoc, List.getElem?_append_left (by simp; omega), List.getElem?_take_of_lt h1]
    have e2 : (C.toList.take (o + off) ++ ys ++ C.toList.drop (o + off + ys.length))[o + i]? = C[o + i]? := by
      rw [List.append_assoc, List.getElem?_append_left (by omega), List.getElem?_take_of_lt (by omega), Array.getElem?_toList]
    rw [e1, e2]
    have := (hrow i hi).1
    simpa [List.getD_eq_getElem?_getD, Array.getD_eq_getD_getElem?] using this
  · by_cases h2 : i < off + xs.length
    · have e1 : (cs.take off ++ xs ++ cs.drop (off + xs.length))[i]? = xs[i - off]? := by
        rw [List.append_assoc, List.getElem?_append_right (by simp; omega)]
        have : (cs.take off).length = off := by simp; omega
        rw [this, List.getElem?_append_left (by omega)]
      have e2 : (C.toList.take (o + off) ++ ys ++ C.toList.drop (o + off + ys.length))[o + i]? = ys[i - off]? := by
        rw [List.append_assoc, List.getElem?_append_right (by omega), htl, List.getElem?_append_left (by omega)]
        congr 1; omega
      rw [e1, e2]
      have := hx.2 (i - off) (by omega)
      simpa [List.getD_eq_getElem?_getD] using this
    · have e1 : (cs.take off ++ xs ++ cs.drop (off + xs.length))[i]? = cs[i]? := by
        rw [List.getElem?_append_right (by simp; omega), List.getElem?_drop]
        congr 1; simp; omega
      have e2 : (C.toList.take (o + off) ++ ys ++ C.toList.drop (o + off + ys.length))[o + i]? = C[o + i]? := by
        rw [List.getElem?_append_right (by rw [List.length_append, htl]; omega), List.getElem?_drop, Array.getElem?_toList]
        congr 1; rw [List.length_append, htl]; omega
      rw [e1, e2]
      have := (hrow i hi).1
      simpa [List.getD_eq_getElem?_getD, Array.getD_eq_getD_getElem?] using this

theorem RelL.writeH (h : RelL A ρ lam L w) {b r o c : Nat} (hρ : ρ b = some (r, o, c)) (C' : Array Value) : RelL A ρ lam L (w.setRow r C') :=
  ⟨fun i r' hi => by simpa using h.dom i r' hi, h.inj, h.disj, fun i r' cs ha hi hc => (h.row i r' cs ha hi hc).keep (setRow_other w r r' C' (fun e => h.disj i r' b o c hi (by rw [e]; exact hρ)))⟩

theorem one_of {xs : List V} {ys : List Value} (h : VRs ρ xs ys) (hs : Scals xs) : ∀ y ∈ ys, y.oneCell' = true := by
  intro y hy
  obtain ⟨i, hi, rfl⟩ := List.getElem_of_mem hy
  have h1 : i < xs.length := by rw [h.1]; exact hi
  have := (h.2 i h1).one (hs i h1)
  simpa [List.getD_eq_getElem?_getD, List.getElem?_eq_getElem hi] using this

/-- cells into a row of one's own: the machine, and what it means for the two memories -/
theorem write_rel (hH : RelH ρ H w) (hL : RelL A ρ lam L w) {b off : Nat} {xs : List V} {ys : List Value} (hv : vstoreH lim H b off xs = some H') {r o c : Nat} (hρ : ρ b = some (r, o, c))
    (hx : VRs ρ xs ys) (hs : Scals xs) : ∃ w', (storeCells ⟨r, o + off, none⟩ ys).run P w = .ok () w' ∧ Grow lim tg ρ lam L H w ρ lam L H' w' ∧ RelH ρ H' w' ∧ RelL A ρ lam L w' := by
  unfold vstoreH at hv
  split at hv
  case isFalse => cases hv
  rename_i hlim
  split at hv
  case h_2 => cases hv
  rename_i cs hb
  split at hv
  case isFalse => cases hv
  rename_i hle
  cases hv
  obtain ⟨C, el, fz, g1, gz, g2, g3, g4⟩ := size_rel hH hρ hb
  have hrun := run_storeCells_fz P r (o + off) el ys 0 C w g1 gz (by rw [← hx.1]; omega) (one_of hx hs)
  simp only [Nat.add_zero] at hrun
  have hrow := splice_at g4 (by omega) hx hs hle
  have hCz : (C.toList.take (o + off) ++ ys ++ C.toList.drop (o + off + ys.length)).toArray.size = C.size := by
    have := hx.1
    simp; omega
  refine ⟨_, hrun, ?_, hH.write hb hρ g1 (by rw [hCz]; exact gz) ?_ (by rw [splice_length hle]; exact g3) hrow, hL.writeH hρ _⟩
  · refine ⟨rfl, rfl, rfl, by simp, by simp, Nat.le_refl _, fun _ _ => rfl, fun _ _ => rfl, fun b _ _ _ h1 h2 => absurd h2 (by simp; omega), fun i _ h1 h2 => absurd h2 (by omega), ?_, own_set hb⟩
    intro r' hr' hno _
    refine setRow_other w r r' _ (fun e => hno ?_)
    subst e
    exact ⟨b, o, c, hlim, ⟨_, hb, rfl⟩, hρ⟩
  · simp; rw [← hx.1]; omega

theorem sizeV_run {t : TypeId} {n : Nat} (h : sizeV P t = some n) : (sizeOf t).run P w = .ok n w := by
  simp only [sizeV, Option.map_eq_some_iff] at h
  obtain ⟨i, hi, rfl⟩ := h
  simp [sizeOf, typeInfo, hi]

/-- a store -/
theorem sim_store {t : TypeId} {Xa X : Operand} {xa x : Opd} {sz : Nat} (hsz : sizeV P t = some sz) (ha : slimOpd Xa = some xa) (hx : slimOpd X = some x)
    (hs : s.run P w = ((Instr.storeAt t (a.eval Xa) (a.eval X)).run P w).andThen fun _ w => .ok .skip w)
    (hF : FRel ρ lam fr a.tmps) (hH : RelH ρ H w) (hL : RelL A ρ lam L w) (htg : ∀ id o, opd fr xa = .lp id o → A id ∧ tg id) {v : V} (he : evOp lim fr L H (.store sz xa x) = some (.val v L' H')) :
    OpSim P lim tg A ρ lam L H w s v L' H' := by
  simp only [evOp] at he
  split at he
  case h_2 => cases he
  rename_i L1 H1 hst
  cases he
  unfold vstore at hst
  split at hst
  case isFalse => cases hst
  rename_i hsto
  split at hst
  case isFalse => cases hst
  rename_i hlen
  obtain ⟨k1, k2⟩ := ((opd_rel hx hF).stor hsto).cells hsto
  have hcs : (a.eval X).cells.size = sz := by have := k1.1; simp at this; omega
  have hpa := opd_rel ha hF
  split at hst
  · rename_i b off heq
    split at hst
    case h_2 => cases hst
    rename_i H2 hst2
    cases hst
    rw [heq] at hpa
    obtain ⟨r, o, c, hρ, hp⟩ := hpa.ptr
    obtain ⟨w', hrun, g1, g2, g3⟩ := write_rel (P := P) (tg := tg) hH hL hst2 hρ k1 k2
    refine ⟨ux, ρ, lam, w', Or.inr ⟨?_, rfl⟩, .undef, g1, g2, g3.wide⟩
    rw [hs, hp]
    simp [Instr.storeAt, Instr.sureAddr, storeVar, sizeV_run hsz, hcs, hrun]
  · rename_i id off heq
    split at hst
    case h_2 => cases hst
    rename_i cs hcs1
    split at hst
    case isFalse => cases hst
    rename_i hle
    cases hst
    rw [heq] at hpa
    obtain ⟨r, hlam, hp⟩ := hpa.lpt
    obtain ⟨hAid, htgid⟩ := htg id off heq
    obtain ⟨C, el, g1, g2, g3⟩ := hL.row id r cs hAid hlam hcs1
    have hle' : off + (cellsV (opd fr x)).length ≤ cs.length := by omega
    have hrun := run_storeCells_at P r off el (a.eval X).cells.toList 0 C w g1 (by rw [← k1.1]; omega) (one_of k1 k2)
    simp only [Nat.add_zero] at hrun
    have hrow := splice_at g3 (by omega) k1 k2 hle'
    simp only [Nat.zero_add] at hrow
    have hlt : id < L.length := (List.getElem?_eq_some_iff.1 hcs1).1
    have hCsz : (List.take off C.toList ++ (a.eval X).cells.toList ++ List.drop (off + (a.eval X).cells.toList.length) C.toList).toArray.size = cs.length := by
      have := k1.1
      simp only [List.size_toArray, List.length_append, List.length_take, List.length_drop, Array.length_toList] at this ⊢; omega
    revert hrun hrow hCsz
    generalize (List.take off C.toList ++ (a.eval X).cells.toList ++ List.drop (off + (a.eval X).cells.toList.length) C.toList).toArray = C'
    intro hrun hrow hCsz
    refine ⟨ux, ρ, lam, w.setRow r C', Or.inr ⟨?_, rfl⟩, .undef, ?_, ?_, ?_⟩
    · rw [hs, hp]
      simp [Instr.storeAt, Instr.sureAddr, storeVar, sizeV_run hsz, hcs, hrun]
    · refine ⟨rfl, rfl, rfl, by simp, Nat.le_refl _, by simp, fun _ _ => rfl, fun _ _ => rfl, fun b _ _ _ h1 h2 => absurd h2 (by omega), fun i _ h1 h2 => absurd h2 (by simp; omega), ?_, fun _ _ h => h⟩
      intro r' hr' _ htg'
      exact setRow_other w r r' _ (fun e => htg' id htgid (e ▸ hlam))
    · refine ⟨fun b r' o c hb => by simpa using hH.dom b r' o c hb, fun b r' o c cs' own hb hr' => ?_, hH.inj, hH.mp.of (fun _ _ _ h => h) (fun _ _ _ _ => rfl) (fun _ _ h => h) fun b r' o c es _ _ h2 _ => setRow_other w r r' _ (fun e => hL.disj id r b o c hlam (e ▸ h2))⟩
      obtain ⟨C1, el1, fz, e1, rest⟩ := hH.row b r' o c cs' own hb hr'
      exact ⟨C1, el1, fz, by rw [setRow_other w r r' _ (fun e => hL.disj id r b o c hlam (e ▸ hb))]; exact e1, rest⟩
    · refine ⟨fun i r' hi => by simpa using hL.dom i r' hi, hL.inj, hL.disj, fun i r' cs' hAi hi hc => ?_⟩
      by_cases e : id = i
      · subst e
        rw [hlam] at hi; cases hi
        rw [List.getElem?_set_self hlt] at hc
        cases hc
        exact ⟨C', el, setRow_heap w r C C' el (0, 0) g1, by rw [splice_length hle']; exact hCsz, hrow⟩
      · rw [List.getElem?_set_ne e] at hc
        have hAi' : A i := hAi.resolve_right (by have := (List.getElem?_eq_some_iff.1 hc).1; omega)
        exact (hL.row i r' cs' hAi' hi hc).keep (setRow_other w r r' _ (fun e' => e (hL.inj id i r hlam (e' ▸ hi))))
  · cases hst

end
end Go.Proofs.YtpdnbmnnkefedaaGreatDoor.Vm
