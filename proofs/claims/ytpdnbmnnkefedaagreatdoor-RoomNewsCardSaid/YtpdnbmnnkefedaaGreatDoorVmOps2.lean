/- Operation by operation, the second part: memory that is made or written. -/
import Derived.Test.YtpdnbmnnkefedaaGreatDoorVmOps
namespace Go.Proofs.YtpdnbmnnkefedaaGreatDoor.Vm
open Go
set_option linter.unusedVariables false
set_option linter.unusedSimpArgs false

section
variable {P : Program} {lim : Nat} {tg A : Nat → Prop} {ρ : Loc} {lam : Lam} {L L' : Lo} {H H' : Hp} {w : World} {s : Sem Next} {fr : Fr} {a : Act}

theorem fold_splice (off : Nat) : ∀ (xs : List Value) (k : Nat) (C : Array Value), off + k + xs.length ≤ C.size →
    ((xs.zipIdx k).foldl (fun cs (p : Value × Nat) => cs.setIfInBounds (off + p.2) p.1) C).toList = C.toList.take (off + k) ++ xs ++ C.toList.drop (off + k + xs.length)
  | [], k, C, _ => by simp
  | x :: xs, k, C, h => by
    have ih := fold_splice off xs (k + 1) (C.setIfInBounds (off + k) x) (by simp at h ⊢; omega)
    have e := list_seg_step C.toList (off + k) x xs (by simp at h ⊢; omega)
    simp only [List.zipIdx_cons, List.foldl_cons]
    rw [ih]
    simpa [Array.toList_setIfInBounds, Nat.add_assoc] using e

theorem splice_rel {cs xs : List V} {C ys : List Value} (h : VRs ρ cs C) (k : VRs ρ xs ys) (off : Nat) : VRs ρ (splice cs off xs) (C.take off ++ ys ++ C.drop (off + ys.length)) := by
  unfold splice
  rw [← k.1]
  exact ((h.take off).append k).append (h.drop _)
theorem splice_scal {cs xs : List V} (h : Scals cs) (k : Scals xs) (off : Nat) : Scals (splice cs off xs) := ((h.take off).append k).append (h.drop _)
theorem splice_length {cs xs : List V} {off : Nat} (h : off + xs.length ≤ cs.length) : (splice cs off xs).length = cs.length := by
  simp [splice]; omega

/-- a struct's, an array's parts, place by place -/
inductive PartsRel (place : Nat → Option (Nat × Nat)) : List (Nat × Operand) → List (Nat × Nat × Opd) → Prop
  | nil : PartsRel place [] []
  | cons {i x o sz y ps vps} : place i = some (o, sz) → slimOpd x = some y → PartsRel place ps vps → PartsRel place ((i, x) :: ps) ((o, sz, y) :: vps)

theorem fill_rel {place : Nat → Option (Nat × Nat)} (hF : FRel ρ lam fr a.tmps) : ∀ {ps : List (Nat × Operand)} {vps : List (Nat × Nat × Opd)}, PartsRel place ps vps →
    ∀ {cs cs' : List V} {C : Array Value}, VRs ρ cs C.toList → Scals cs → vfill cs (opdP fr vps) = some cs' →
    ∃ C', Instr.fill place C (ps.map fun p => (p.1, a.eval p.2)) = some C' ∧ VRs ρ cs' C'.toList ∧ Scals cs' ∧ cs'.length = cs.length := by
  intro ps vps hp
  induction hp with
  | nil => intro cs cs' C h1 h2 h3; simp [opdP, vfill] at h3; subst h3; exact ⟨C, rfl, h1, h2, rfl⟩
  | @cons i x o sz y ps vps hpl hx _ ih =>
    intro cs cs' C h1 h2 h3
    simp only [opdP, vfill] at h3
    split at h3
    · rename_i hst
      split at h3
      · rename_i hlen
        split at h3
        · rename_i hle
          obtain ⟨k1, k2⟩ := ((opd_rel hx hF).stor hst).cells hst
          have hsz : (a.eval x).cells.size = sz := by have := k1.1; simp at this; omega
          have hC : C.size = cs.length := by have := h1.1; simp at this; omega
          have hfold : ((a.eval x).cells.zipIdx.foldl (fun cs (p : Value × Nat) => cs.setIfInBounds (o + p.2) p.1) C).toList = C.toList.take o ++ (a.eval x).cells.toList ++ C.toList.drop (o + (a.eval x).cells.toList.length) := by
            rw [← Array.foldl_toList, Array.toList_zipIdx]
            have := fold_splice o (a.eval x).cells.toList 0 C (by simp; omega)
            simpa using this
          have hv := splice_rel h1 k1 o
          rw [← hfold] at hv
          obtain ⟨C', g1, g2, g3, g4⟩ := ih hv (splice_scal h2 k2 o) h3
          refine ⟨C', ?_, g2, g3, by rw [g4, splice_length (by omega)]⟩
          simp only [List.map_cons, Instr.fill, hpl]
          rw [if_neg (by simp; omega)]
          exact g1
        · cases h3
      · cases h3
    · cases h3

theorem partsA_rel {sz : Nat} : ∀ {ps : List (Nat × Operand)} {vps : List (Nat × Nat × Opd)}, partsA sz ps = some vps → PartsRel (fun i => some (i * sz, sz)) ps vps
  | [], vps, h => by simp [partsA] at h; subst h; exact .nil
  | (i, x) :: ps, vps, h => by
    unfold partsA at h
    split at h
    · rename_i y qs h1 h2
      cases h
      exact .cons rfl h1 (partsA_rel h2)
    · cases h

theorem partsS_rel {fields : Array Field} {places : List (Nat × Nat)} (hpl : fields.toList.mapM (fun f => (P.info? f.type).map fun i => (f.offset, i.size)) = some places) :
    ∀ {ps : List (Nat × Operand)} {vps : List (Nat × Nat × Opd)}, partsS P fields ps = some vps → PartsRel (places.toArray[·]?) ps vps
  | [], vps, h => by simp [partsS] at h; subst h; exact .nil
  | (i, x) :: ps, vps, h => by
    unfold partsS at h
    split at h
    · rename_i f y qs h1 h2 h3
      split at h
      · rename_i sz hs
        cases h
        refine .cons ?_ h2 (partsS_rel hpl h3)
        have hplace : ∀ (fs : List Field) (pl : List (Nat × Nat)) (i : Nat) (f : Field), fs.mapM (fun f => (P.info? f.type).map fun i => (f.offset, i.size)) = some pl → fs[i]? = some f →
            pl[i]? = (P.info? f.type).map fun i => (f.offset, i.size) := by
          intro fs
          induction fs with
          | nil => intro pl i f _ hf; simp at hf
          | cons g gs ih =>
            intro pl i f hm hf
            simp only [List.mapM_cons, Option.bind_eq_bind, Option.bind_eq_some_iff, Option.pure_def] at hm
            obtain ⟨q, hq, r, hr, he⟩ := hm
            cases he
            cases i with
            | zero => simp at hf; subst hf; simp [hq]
            | succ i => simp at hf; simpa using ih r i f hr hf
        have := hplace fields.toList places i f hpl (by simpa using h1)
        simp only [List.getElem?_toArray, this]
        unfold sizeV at hs
        cases hi : P.info? f.type with
        | none => simp [hi] at hs
        | some ii => simp [hi] at hs ⊢; exact hs
      · cases h
    · cases h

theorem mapM_isSome {α β : Type} (f : α → Option β) : ∀ (l : List α), (∀ x ∈ l, (f x).isSome = true) → ∃ r, l.mapM f = some r
  | [], _ => ⟨[], by simp⟩
  | x :: xs, h => by
    obtain ⟨r, hr⟩ := mapM_isSome f xs fun y hy => h y (by simp [hy])
    obtain ⟨b, hb⟩ := Option.isSome_iff_exists.1 (h x (by simp))
    exact ⟨b :: r, by simp [List.mapM_cons, hb, hr]⟩

theorem zeroV_rel {t : TypeId} {z : List V} (h : zeroV P t = some z) : ∃ i zv, P.info? t = some i ∧ i.zero = some zv ∧ VRs ρ z zv.cells.toList ∧ Scals z := by
  unfold zeroV at h
  split at h
  · rename_i i hi
    split at h
    · rename_i zv hz
      exact ⟨i, zv, hi, hz, toVs_rel h, toVs_scal h⟩
    · cases h
  · cases h

theorem run_newVar (t : TypeId) (v : Value) : (newVar t v).run P w = .ok ⟨w.heap.size, 0, none⟩ (w.alloc (.cells v.cells t)) := by
  simp [newVar, newRow]

theorem vr_new {b r c : Nat} : VR (ρ.add b (r, 0, c)) (.ptr b 0) (.pointer (some ⟨r, 0, none⟩)) := by
  have := VR.ptr (off := 0) (ρ := ρ.add b (r, 0, c)) (b := b) (r := r) (o := 0) (c := c) (by simp [Loc.add])
  simpa using this
theorem alloc_facts3 (w : World) (C : Array Value) (el : TypeId) (fz : Nat × Nat) : w.heap.size < (w.alloc (.cells C el fz)).heap.size ∧ (∀ r, r < w.heap.size → (w.alloc (.cells C el fz)).heap[r]? = w.heap[r]?) ∧ (w.alloc (.cells C el fz)).heap[w.heap.size]? = some (.cells C el fz) :=
  ⟨by simp, fun r hr => heap_alloc_old w _ r hr, heap_alloc_new w _⟩
theorem vr_newsl {b r c len cap sz : Nat} (h1 : len ≤ cap) (h2 : cap * sz ≤ c) : VR (ρ.add b (r, 0, c)) (.sl b 0 len sz) (.slice (some ⟨r, 0, none⟩) len cap) := by
  have := VR.sl (off := 0) (ρ := ρ.add b (r, 0, c)) (b := b) (r := r) (o := 0) (c := c) (sz := sz) (by simp [Loc.add]) h1 (by omega)
  simpa using this

/-! new variables -/
theorem sim_new {loc : Bool} {z : List V} {t : TypeId} (hz : zeroV P t = some z) (hs : ∀ w : World, s.run P w = ((Instr.alloc t true (.tuple #[])).run P w).andThen fun v w => .ok (.value v) w)
    (hH : RelH ρ H w) (hL : RelL A ρ lam L w) {v : V} (he : evOp lim fr L H (.new loc z) = some (.val v L' H')) (hfR : FreeR ρ H.length H'.length) (hfL : FreeL lam L.length L'.length) :
    OpSim P lim tg A ρ lam L H w s v L' H' := by
  obtain ⟨i, zv, hi, hz', k1, k2⟩ := zeroV_rel (ρ := ρ) hz
  obtain ⟨f1, f2, f3, f4⟩ := alloc_facts w zv.cells t
  have hrun : s.run P w = .ok (.value (.pointer (some ⟨w.heap.size, 0, none⟩))) (w.alloc (.cells zv.cells t)) := by
    rw [hs]; simp [Instr.alloc, zeroValue, typeInfo, hi, hz', run_newVar]
  have hlen : zv.cells.size = z.length := by have := k1.1; simp at this; omega
  simp only [evOp] at he
  split at he
  · cases he
    exact OpSim.pushL hH hL (by simpa using hfL) hrun ⟨f1, rfl, rfl⟩ f2 f3 f4 hlen (RowAt.of_VRs k1 k2) rfl
  · cases he
    exact OpSim.pushH (c := z.length) hH hL (by simpa using hfR) hrun ⟨f1, rfl, rfl⟩ f2 f3 f4 (by omega) (Nat.le_refl _) (RowAt.of_VRs k1 k2) vr_new

theorem sim_box {loc : Bool} {X : Operand} {x : Opd} {t : TypeId} (hx : slimOpd X = some x) (hs : s.run P w = ((Instr.box t (a.eval X)).run P w).andThen fun v w => .ok (.value v) w)
    (hF : FRel ρ lam fr a.tmps) (hH : RelH ρ H w) (hL : RelL A ρ lam L w) {v : V} (he : evOp lim fr L H (.box loc x) = some (.val v L' H')) (hfR : FreeR ρ H.length H'.length) (hfL : FreeL lam L.length L'.length) :
    OpSim P lim tg A ρ lam L H w s v L' H' := by
  simp only [evOp] at he
  split at he
  case isFalse => cases he
  rename_i hst
  obtain ⟨k1, k2⟩ := ((opd_rel hx hF).stor hst).cells hst
  obtain ⟨f1, f2, f3, f4⟩ := alloc_facts w (a.eval X).cells t
  have hrun : s.run P w = .ok (.value (.pointer (some ⟨w.heap.size, 0, none⟩))) (w.alloc (.cells (a.eval X).cells t)) := by
    rw [hs]; simp [Instr.box, run_newVar]
  have hlen : (a.eval X).cells.size = (cellsV (opd fr x)).length := by have := k1.1; simp at this; omega
  split at he
  · cases he
    exact OpSim.pushL hH hL (by simpa using hfL) hrun ⟨f1, rfl, rfl⟩ f2 f3 f4 hlen (RowAt.of_VRs k1 k2) rfl
  · cases he
    exact OpSim.pushH (c := (cellsV (opd fr x)).length) hH hL (by simpa using hfR) hrun ⟨f1, rfl, rfl⟩ f2 f3 f4 (by omega) (Nat.le_refl _) (RowAt.of_VRs k1 k2) vr_new

/-- a value of several cells -/
theorem vr_agg {cs : List V} {C : Array Value} (h : VRs ρ cs C.toList) (hs : Scals cs) : VR ρ (.agg cs) (.agg C) :=
  .agg (by simpa using h.1) (fun i hi => by simpa [List.getD_eq_getElem?_getD, Array.getD_eq_getD_getElem?] using h.2 i hi) hs

theorem map_pairs (parts : Array (Nat × Operand)) (f : Operand → Value) : (parts.map fun (i, x) => (i, f x)).toList = parts.toList.map fun p => (p.1, f p.2) := by
  simp

theorem sim_build {o : Oper} {t : TypeId} {parts : Array (Nat × Operand)} {vo : VOp} (ho : o.op = .build t parts) {glob : List Nat} (hsl : slimOp0 P glob o = some vo)
    (hF : FRel ρ lam fr a.tmps) (hH : RelH ρ H w) (hL : RelL A ρ lam L w) {v : V} (he : evOp lim fr L H vo = some (.val v L' H')) :
    OpSim P lim tg A ρ lam L H w (execOp a.eval o) v L' H' := by
  have key : ∀ (place : Nat → Option (Nat × Nat)) (z : List V) (zv : Value) (vps : List (Nat × Nat × Opd)), VRs ρ z zv.cells.toList → Scals z → PartsRel place parts.toList vps →
      vo = .build z vps → (∀ C, Instr.fill place zv.cells (parts.toList.map fun p => (p.1, a.eval p.2)) = some C → P.built t (parts.toList.map fun p => (p.1, a.eval p.2)) = some C) →
      OpSim P lim tg A ρ lam L H w (execOp a.eval o) v L' H' := by
    intro place z zv vps k1 k2 hp hvo hb
    subst hvo
    simp only [evOp] at he
    split at he
    · rename_i cs hcs
      cases he
      obtain ⟨C, h1, h2, h3, _⟩ := fill_rel hF hp k1 k2 hcs
      have hbuilt := hb C h1
      have hrun := run_build (P := P) w t (parts.map fun (i, x) => (i, a.eval x)) C (by rw [map_pairs]; exact hbuilt)
      exact OpSim.pure (x := .agg C) (by simp only [execOp, ho, Sem.run_bind, hrun, Result.andThen_ok, Sem.run_pure]) (.vr (vr_agg h2 h3)) hH hL
    · cases he
  simp only [slimOp0, ho] at hsl
  split at hsl
  · rename_i fields z hu hz
    obtain ⟨i, zv, hi, hz', k1, k2⟩ := zeroV_rel (ρ := ρ) hz
    split at hsl
    · rename_i hall
      simp only [Option.map_eq_some_iff] at hsl
      obtain ⟨vps, hvps, rfl⟩ := hsl
      obtain ⟨places, hpl⟩ := mapM_isSome (fun f : Field => (P.info? f.type).map fun i => (f.offset, i.size)) fields.toList (fun f hf => by
        have := Array.all_eq_true_iff_forall_mem.1 hall f (by simpa using hf)
        simpa [sizeV] using this)
      refine key (places.toArray[·]?) z zv vps k1 k2 (partsS_rel hpl hvps) rfl (fun C hC => ?_)
      simp only [Program.built, hi, hu, hz', hpl]; exact hC
    · cases hsl
  · rename_i n e z hu hz
    obtain ⟨i, zv, hi, hz', k1, k2⟩ := zeroV_rel (ρ := ρ) hz
    split at hsl
    · rename_i sz hsz
      simp only [Option.map_eq_some_iff] at hsl
      obtain ⟨vps, hvps, rfl⟩ := hsl
      simp only [sizeV, Option.map_eq_some_iff] at hsz
      obtain ⟨ie, hie, rfl⟩ := hsz
      refine key _ z zv vps k1 k2 (partsA_rel hvps) rfl (fun C hC => ?_)
      simp only [Program.built, hi, hu, hz', hie]; exact hC
    · cases hsl
  · cases hsl

end
end Go.Proofs.YtpdnbmnnkefedaaGreatDoor.Vm
