/- Operation by operation: what slim code does, the model's operation does. -/
import Derived.Test.YtpdnbmnnkefedaaGreatDoorVmGrow
namespace Go.Proofs.YtpdnbmnnkefedaaGreatDoor.Vm
open Go
set_option linter.unusedVariables false
set_option linter.unusedSimpArgs false

def OpSim (P : Program) (lim : Nat) (tg A : Nat → Prop) (ρ : Loc) (lam : Lam) (L : Lo) (H : Hp) (w : World) (s : Sem Next) (v : V) (L' : Lo) (H' : Hp) : Prop :=
  ∃ x ρ' lam' w', (s.run P w = .ok (.value x) w' ∨ (s.run P w = .ok .skip w' ∧ x = ux)) ∧ FV ρ' lam' v x ∧ Grow lim tg ρ lam L H w ρ' lam' L' H' w' ∧ RelH ρ' H' w' ∧
    RelL (fun i => A i ∨ L.length ≤ i) ρ' lam' L' w'

section
variable {P : Program} {lim : Nat} {tg A : Nat → Prop} {ρ : Loc} {lam : Lam} {L : Lo} {H : Hp} {w : World} {s : Sem Next} {fr : Fr} {a : Act}

theorem RelL.wide (h : RelL A ρ lam L w) : RelL (fun i => A i ∨ L.length ≤ i) ρ lam L w :=
  ⟨h.dom, h.inj, h.disj, fun id r cs ha hi hc => h.row id r cs (ha.resolve_right (by have := (List.getElem?_eq_some_iff.1 hc).1; omega)) hi hc⟩

theorem OpSim.pure {v : V} {x : Value} (hrun : s.run P w = .ok (.value x) w) (hv : FV ρ lam v x) (hH : RelH ρ H w) (hL : RelL A ρ lam L w) : OpSim P lim tg A ρ lam L H w s v L H :=
  ⟨x, ρ, lam, w, Or.inl hrun, hv, Grow.refl, hH, hL.wide⟩

theorem OpSim.pushH {w' : World} {v : V} {x : Value} {cs : List V} {C : Array Value} {el : TypeId} {c : Nat} (hH : RelH ρ H w) (hL : RelL A ρ lam L w) (hfree : FreeR ρ H.length (H.length + 1))
    (hrun : s.run P w = .ok (.value x) w') (hw : w'.os = w.os ∧ w'.tape = w.tape ∧ w'.output = w.output) (hsz : w.heap.size < w'.heap.size) (hk : ∀ r, r < w.heap.size → w'.heap[r]? = w.heap[r]?)
    (hg : w'.heap[w.heap.size]? = some (.cells C el (0, 0))) (hc : c ≤ C.size) (hcs : cs.length ≤ c) (hrow : RowAt ρ cs C 0)
    (hv : VR (ρ.add H.length (w.heap.size, 0, c)) v x) : OpSim P lim tg A ρ lam L H w s v L (H ++ [.row cs true]) := by
  have hf : ρ H.length = none := hfree _ (Nat.le_refl _) (Nat.lt_succ_self _)
  refine ⟨x, ρ.add H.length (w.heap.size, 0, c), lam, w', Or.inl hrun, .vr hv, ?_, hH.push hf hsz hk hg hc hcs hrow FzOk.zero, (hL.pushH hf hsz hk).wide⟩
  refine ⟨hw.1, hw.2.1, hw.2.2, Nat.le_of_lt hsz, by simp, Nat.le_refl _, ?_, fun _ _ => rfl, ?_, fun i r h1 h2 => absurd h2 (by omega), fun r hr _ _ => hk r hr, ?_⟩
  · intro b hb
    unfold Loc.add
    rw [if_neg]
    simp at hb; omega
  · intro b r o c' h1 h2 hb
    have : b = H.length := by simp at h2; omega
    subst this
    unfold Loc.add at hb
    simp at hb
    left; omega
  · rintro b hb ⟨cs', hcs'⟩
    rw [List.getElem?_append_left hb] at hcs'
    exact ⟨cs', hcs'⟩

theorem OpSim.pushF {w' : World} {v : V} {x : Value} {cs : List V} {C : Array Value} {el : TypeId} {fz0 : Nat × Nat} {c : Nat} (hH : RelH ρ H w) (hL : RelL A ρ lam L w) (hfree : FreeR ρ H.length (H.length + 1))
    (hrun : s.run P w = .ok (.value x) w') (hw : w'.os = w.os ∧ w'.tape = w.tape ∧ w'.output = w.output) (hsz : w.heap.size < w'.heap.size) (hk : ∀ r, r < w.heap.size → w'.heap[r]? = w.heap[r]?)
    (hg : w'.heap[w.heap.size]? = some (.cells C el fz0)) (hc : c ≤ C.size) (hcs : cs.length ≤ c) (hrow : RowAt ρ cs C 0) (hfz : FzOk fz0 C.size)
    (hv : VR (ρ.add H.length (w.heap.size, 0, c)) v x) : OpSim P lim tg A ρ lam L H w s v L (H ++ [.row cs true]) := by
  have hf : ρ H.length = none := hfree _ (Nat.le_refl _) (Nat.lt_succ_self _)
  refine ⟨x, ρ.add H.length (w.heap.size, 0, c), lam, w', Or.inl hrun, .vr hv, ?_, hH.push hf hsz hk hg hc hcs hrow hfz, (hL.pushH hf hsz hk).wide⟩
  refine ⟨hw.1, hw.2.1, hw.2.2, Nat.le_of_lt hsz, by simp, Nat.le_refl _, ?_, fun _ _ => rfl, ?_, fun i r h1 h2 => absurd h2 (by omega), fun r hr _ _ => hk r hr, ?_⟩
  · intro b hb
    unfold Loc.add
    rw [if_neg]
    simp at hb; omega
  · intro b r o c' h1 h2 hb
    have : b = H.length := by simp at h2; omega
    subst this
    unfold Loc.add at hb
    simp at hb
    left; omega
  · rintro b hb ⟨cs', hcs'⟩
    rw [List.getElem?_append_left hb] at hcs'
    exact ⟨cs', hcs'⟩

theorem OpSim.pushL {w' : World} {x : Value} {cs : List V} {C : Array Value} {el : TypeId} (hH : RelH ρ H w) (hL : RelL A ρ lam L w) (hfree : FreeL lam L.length (L.length + 1))
    (hrun : s.run P w = .ok (.value x) w') (hw : w'.os = w.os ∧ w'.tape = w.tape ∧ w'.output = w.output) (hsz : w.heap.size < w'.heap.size) (hk : ∀ r, r < w.heap.size → w'.heap[r]? = w.heap[r]?)
    (hg : w'.heap[w.heap.size]? = some (.cells C el (0, 0))) (hc : C.size = cs.length) (hrow : RowAt ρ cs C 0) (hx : x = .pointer (some ⟨w.heap.size, 0, none⟩)) :
    OpSim P lim tg A ρ lam L H w s (.lp L.length 0) (L ++ [cs]) H := by
  have hf : lam L.length = none := hfree _ (Nat.le_refl _) (Nat.lt_succ_self _)
  refine ⟨x, ρ, lam.add L.length w.heap.size, w', Or.inl hrun, ?_, ?_, hH.keep (Nat.le_of_lt hsz) hk, hL.push hH hf hsz hk hg hc hrow⟩
  · rw [hx]; exact .lp (by simp [Lam.add])
  refine ⟨hw.1, hw.2.1, hw.2.2, Nat.le_of_lt hsz, Nat.le_refl _, by simp, fun _ _ => rfl, ?_, fun i r o c h1 h2 => absurd h2 (by omega), ?_, fun r hr _ _ => hk r hr, fun b _ h => h⟩
  · intro b hb
    unfold Lam.add
    rw [if_neg]
    simp at hb; omega
  · intro i r h1 h2 hb
    have : i = L.length := by simp at h2; omega
    subst this
    unfold Lam.add at hb
    simp at hb
    omega

/-- the world with one block more -/
theorem alloc_facts (w : World) (C : Array Value) (el : TypeId) :
    (w.alloc (.cells C el)).os = w.os ∧ w.heap.size < (w.alloc (.cells C el)).heap.size ∧ (∀ r, r < w.heap.size → (w.alloc (.cells C el)).heap[r]? = w.heap[r]?) ∧
    (w.alloc (.cells C el)).heap[w.heap.size]? = some (.cells C el (0, 0)) := by
  refine ⟨rfl, by simp, fun r hr => heap_alloc_old w _ r hr, heap_alloc_new w _⟩

/-! operands -/
theorem toV_rel {v : Value} {u : V} (h : toV v = some u) : VR ρ u v := by
  unfold toV at h
  split at h <;> first | (cases h; constructor) | cases h

theorem toVs_rel : ∀ {vs : List Value} {us : List V}, toVs vs = some us → VRs ρ us vs
  | [], us, h => by simp [toVs] at h; subst h; exact .nil
  | x :: xs, us, h => by
    unfold toVs at h
    split at h
    · rename_i v vs h1 h2
      cases h
      exact .cons (toV_rel h1) (toVs_rel h2)
    · cases h

theorem toV_scal {v : Value} {u : V} (h : toV v = some u) : scal u = true := by
  unfold toV at h
  split at h <;> first | (cases h; rfl) | cases h

theorem toVs_scal : ∀ {vs : List Value} {us : List V}, toVs vs = some us → Scals us
  | [], us, h => by simp [toVs] at h; subst h; exact fun i hi => absurd hi (by simp)
  | x :: xs, us, h => by
    unfold toVs at h
    split at h
    · rename_i v vs h1 h2
      cases h
      rw [Scals.mem]
      intro y hy
      rcases List.mem_cons.1 hy with rfl | hy
      · exact toV_scal h1
      · exact Scals.mem.1 (toVs_scal h2) y hy
    · cases h

theorem opd_rel {X : Operand} {x : Opd} (h : slimOpd X = some x) (hF : FRel ρ lam fr a.tmps) : FV ρ lam (opd fr x) (a.eval X) := by
  cases X with
  | tmp t => simp [slimOpd] at h; subst h; exact hF.fv t
  | const v =>
    simp only [slimOpd, Option.map_eq_some_iff] at h
    obtain ⟨u, hu, rfl⟩ := h
    exact .vr (toV_rel hu)
  | func f =>
    simp [slimOpd] at h; subst h
    exact .vr (.func rfl (fun i hi => absurd hi (by simp)) rfl (fun i hi => absurd hi (by simp)))
  | global g =>
    simp only [slimOpd, Option.map_eq_some_iff] at h
    obtain ⟨k, hk, rfl⟩ := h
    obtain ⟨cs, hc⟩ := glAt_get hk
    exact .vr (.ptr (off := 0) (hF.gl k g cs hc))

theorem opds_rel : ∀ {Xs : List Operand} {xs : List Opd}, slimOpds Xs = some xs → FRel ρ lam fr a.tmps → allStor (opds fr xs) = true → VRs ρ (opds fr xs) (Xs.map a.eval)
  | [], xs, h, _, _ => by simp [slimOpds] at h; subst h; exact .nil
  | X :: Xs, xs, h, hF, hs => by
    unfold slimOpds at h
    split at h
    · rename_i v vs h1 h2
      cases h
      simp only [opds, allStor, Bool.and_eq_true] at hs
      exact .cons ((opd_rel h1 hF).stor hs.1) (opds_rel h2 hF hs.2)
    · cases h

theorem FV.bool {b : Bool} {x : Value} (h : FV ρ lam (.bool b) x) : x = .bool b := by cases h with | vr h => cases h; rfl
theorem FV.int {k : IntKind} {n : Int} {x : Value} (h : FV ρ lam (.int k n) x) : x = .int k n := by cases h with | vr h => cases h; rfl
theorem FV.str {b : ByteArray} {x : Value} (h : FV ρ lam (.str b) x) : x = .string b := by cases h with | vr h => cases h; rfl
theorem FV.ptr {b o : Nat} {x : Value} (h : FV ρ lam (.ptr b o) x) : ∃ r o' c, ρ b = some (r, o', c) ∧ x = .pointer (some ⟨r, o' + o, none⟩) := by
  cases h with | vr h => cases h with | ptr h => exact ⟨_, _, _, h, rfl⟩
theorem FV.lpt {id o : Nat} {x : Value} (h : FV ρ lam (.lp id o) x) : ∃ r, lam id = some r ∧ x = .pointer (some ⟨r, o, none⟩) := by
  cases h with
  | vr h => cases h
  | lp h => exact ⟨_, h, rfl⟩
theorem FV.sl {b o len sz : Nat} {x : Value} (h : FV ρ lam (.sl b o len sz) x) : ∃ r o' c cap, ρ b = some (r, o', c) ∧ len ≤ cap ∧ o + cap * sz ≤ c ∧ x = .slice (some ⟨r, o' + o, none⟩) len cap := by
  cases h with | vr h => cases h with | sl h1 h2 h3 => exact ⟨_, _, _, _, h1, h2, h3, rfl⟩
theorem FV.slc {b o len sz cp : Nat} {x : Value} (h : FV ρ lam (.slc b o len sz cp) x) : ∃ r o' c cap, ρ b = some (r, o', c) ∧ len ≤ cp ∧ cp ≤ cap ∧ o + cap * sz ≤ c ∧ x = .slice (some ⟨r, o' + o, none⟩) len cap := by
  cases h with | vr h => cases h with | slc h1 h2 h3 h4 => exact ⟨_, _, _, _, h1, h2, h3, h4, rfl⟩
theorem FV.mp {b : Nat} {x : Value} (h : FV ρ lam (.mp b) x) : ∃ r o c, ρ b = some (r, o, c) ∧ x = .map (some r) := by
  cases h with | vr h => cases h with | mp h1 => exact ⟨_, _, _, h1, rfl⟩
theorem FV.it {b : Nat} {x : Value} (h : FV ρ lam (.it b) x) : ∃ r o c, ρ b = some (r, o, c) ∧ x = .pointer (some ⟨r, 0, none⟩) := by
  cases h with | vr h => cases h with | it h1 => exact ⟨_, _, _, h1, rfl⟩
theorem FV.szero {x : Value} (h : FV ρ lam .szero x) : ∃ b, x = .slice (some b) 0 0 := by cases h with | vr h => cases h; exact ⟨_, rfl⟩
theorem FV.snil {x : Value} (h : FV ρ lam .snil x) : x = .slice none 0 0 := by cases h with | vr h => cases h; rfl
theorem FV.sempty {x : Value} (h : FV ρ lam .sempty x) : ∃ b cap, x = .slice (some b) 0 cap := by cases h with | vr h => cases h; exact ⟨_, _, rfl⟩
theorem FV.agg {cs : List V} {x : Value} (h : FV ρ lam (.agg cs) x) : ∃ C : Array Value, x = .agg C ∧ VRs ρ cs C.toList ∧ Scals cs := by
  cases h with
  | vr h =>
    obtain ⟨h1, h2⟩ := h.cells rfl
    cases h with
    | agg => exact ⟨_, rfl, h1, h2⟩
theorem FV.tup {cs : List V} {x : Value} (h : FV ρ lam (.tup cs) x) : ∃ C : Array Value, x = .tuple C ∧ cs.length = C.size ∧ ∀ i, i < cs.length → VR ρ (cs.getD i dv) (C.getD i ux) := by
  cases h with | vr h => cases h with | tup h1 h2 => exact ⟨_, rfl, h1, h2⟩

/-! loads -/
theorem addr_add (r o n : Nat) : (⟨r, o, none⟩ : Addr).add n = ⟨r, o + n, none⟩ := by
  unfold Addr.add; split <;> simp_all

theorem cell_at {r : Nat} {C : Array Value} {el : TypeId} {fz : Nat × Nat} (h : w.heap[r]? = some (.cells C el fz)) (i : Nat) : w.cell? ⟨r, i, none⟩ = C[i]? := by
  simp [World.cell?, h]

theorem aggOf_none {t : TypeId} (h : aggOf P t = some none) : (isAgg t).run P w = .ok false w := by
  unfold aggOf at h
  unfold isAgg
  split at h <;> first | cases h | skip
  rename_i d i hd hi hn1 hn2
  simp only [Sem.run_bind, run_underlying hn1, Result.andThen_ok]
  cases d <;> first | rfl | (exact absurd rfl (hd _)) | (exact absurd rfl (hi _ _))

theorem aggOf_some {t : TypeId} {n : Nat} (h : aggOf P t = some (some n)) : (isAgg t).run P w = .ok true w ∧ (sizeOf t).run P w = .ok n w := by
  unfold aggOf at h
  unfold isAgg sizeOf typeInfo
  split at h
  · rename_i fs i hu hi
    cases h
    simp [run_underlying hu, hi]
  · rename_i m e i hu hi
    cases h
    simp [run_underlying hu, hi]
  · cases h
  · cases h

theorem rd_rel {g : Option Nat} {cs : List V} {off : Nat} {v : V} (h : rd g cs off = some v) {C : Array Value} {o r : Nat} {el : TypeId} {fz : Nat × Nat}
    (hg : w.heap[r]? = some (.cells C el fz)) (hrow : RowAt ρ cs C o) (hsz : o + cs.length ≤ C.size) {t : TypeId} (hag : aggOf P t = some g) :
    ∃ x, (loadVar t ⟨r, o + off, none⟩).run P w = .ok x w ∧ VR ρ v x := by
  cases g with
  | none =>
    simp only [rd] at h
    split at h
    · rename_i hlt
      cases h
      refine ⟨C.getD (o + off) ux, ?_, (hrow off hlt).1⟩
      have hlt' : o + off < C.size := by omega
      unfold loadVar
      simp [aggOf_none hag, cell_at hg, hlt']
    · cases h
  | some n =>
    simp only [rd] at h
    split at h
    · rename_i hle
      cases h
      have hseg : (C.extract (o + off) (o + off + n)).toList.length = n := by simp; omega
      refine ⟨.agg (C.extract (o + off) (o + off + n)).toList.toArray, ?_, ?_⟩
      · unfold loadVar
        obtain ⟨h1, h2⟩ := aggOf_some (w := w) hag
        have := run_loadCells_list (P := P) w ⟨r, o + off, none⟩ (C.extract (o + off) (o + off + n)).toList (fun j v hj => by
          rw [addr_add, cell_at hg]
          have hjl := (List.getElem?_eq_some_iff.1 hj).1
          rw [hseg] at hjl
          rw [Array.getElem?_toList, Array.getElem?_extract] at hj
          rw [← hj]
          simp; omega)
        rw [hseg] at this
        simp only [Sem.run_bind, h1, Result.andThen_ok, if_true, h2, this, Sem.run_pure]
      · have e : (C.extract (o + off) (o + off + n)).toList = ((C.extract o (o + cs.length)).toList.drop off).take n := by
          apply List.ext_getElem?
          intro j
          simp only [List.getElem?_take, List.getElem?_drop, Array.getElem?_toList, Array.getElem?_extract]
          by_cases hj : j < n
          · have h1 : j < min (o + off + n) C.size - (o + off) := by omega
            have h2 : off + j < min (o + cs.length) C.size - o := by omega
            simp [hj, h1, h2, Nat.add_assoc]
            omega
          · have h1 : ¬ j < min (o + off + n) C.size - (o + off) := by omega
            simp [hj, h1]
        have hv := ((VRs.of_row hrow hsz).drop off).take n
        rw [← e] at hv
        have hs : Scals ((cs.drop off).take n) := Scals.take (Scals.drop (fun i hi => (hrow i hi).2) off) n
        exact .agg (by simpa using hv.1) (fun i hi => by simpa [List.getD_eq_getElem?_getD, Array.getD_eq_getD_getElem?] using hv.2 i hi) hs
    · cases h

theorem vload_rel {g : Option Nat} {p v : V} {x : Value} (h : vload g L H p = some v) (hp : FV ρ lam p x) (hH : RelH ρ H w) (hL : RelL A ρ lam L w)
    (hA : ∀ id o, p = .lp id o → A id) {t : TypeId} (hag : aggOf P t = some g) : ∃ y, (Instr.loadAt t x).run P w = .ok y w ∧ VR ρ v y := by
  cases p with
  | ptr b off =>
    obtain ⟨r, o, c, hρ, rfl⟩ := hp.ptr
    simp only [vload] at h
    split at h
    · rename_i cs own hb
      obtain ⟨C, el, fz, h1, h2, h3, h4, h5⟩ := hH.row b r o c cs own hρ hb
      simpa [Instr.loadAt, Instr.sureAddr] using rd_rel (P := P) h h1 h5 (by omega) hag
    · cases h
  | lp id off =>
    obtain ⟨r, hl, rfl⟩ := hp.lpt
    simp only [vload] at h
    split at h
    · rename_i cs hcs
      obtain ⟨C, el, h1, h2, h3⟩ := hL.row id r cs (hA id off rfl) hl hcs
      have := rd_rel (P := P) h h1 h3 (by omega) hag
      simpa [Instr.loadAt, Instr.sureAddr] using this
    · cases h
  | _ => simp [vload] at h

end
end Go.Proofs.YtpdnbmnnkefedaaGreatDoor.Vm
