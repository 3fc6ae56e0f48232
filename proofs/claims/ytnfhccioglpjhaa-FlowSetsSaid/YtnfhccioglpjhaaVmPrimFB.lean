/- slices.Insert at lists of edges, as slim code written by hand. -/
import Derived.Test.YtnfhccioglpjhaaVmPrimFA
import Derived.Test.YtnfhccioglpjhaaVmRec
namespace Go.Proofs.Ytnfhccioglpjhaa.Vm
open Go Go.Shelf Go.RowKit Go.Lib
set_option maxRecDepth 100000
set_option linter.unusedSimpArgs false
set_option linter.unusedVariables false
attribute [-simp] List.getD_eq_getElem?_getD
def askIns : List V → Hp → Bool
  | [.snil, .int .i64 k, .sl vb vo 1 3], H => (match H[vb]? with | some (.row _ true) => true | _ => false) && decide (k = 0)
  | [.sl b 0 n 3, .int .i64 k, .sl vb vo 1 3], H => (match H[vb]? with | some (.row _ true) => true | _ => false) && decide (0 ≤ k ∧ k ≤ n ∧ vb ≠ b ∧ n ≤ 1000000)
  | _, _ => false
def insV : VFn := ⟨3, [.tmp 4], .seq (.reg [⟨none, .x (.ask askIns) [.t 0, .t 1, .t 2], none, []⟩, ⟨some 3, .lenS (.t 0), none, []⟩, ⟨some 5, .bin .eql (.t 1) (.t 3), none, []⟩, ⟨some 4, .append 3 24 (.t 0) (.t 2), none, []⟩])
  (.cond (.t 5) .skip (.reg [⟨some 7, .bin .add (.t 1) (.c (.int .i64 1)), none, []⟩, ⟨some 8, .slS 3 (.t 4) (some (.t 7)) none, none, []⟩, ⟨some 9, .slS 3 (.t 4) (some (.t 1)) (some (.t 3)), none, []⟩, ⟨some 10, .copy 3 (.t 8) (.t 9), none, []⟩, ⟨some 11, .slS 3 (.t 4) (some (.t 1)) none, none, []⟩, ⟨some 12, .copy 3 (.t 11) (.t 2), none, []⟩]))⟩
theorem insV_run {call : CallFn} {n lim : Nat} {args : List V} {H : Hp} {v : V} {s : St} {e : VExit} (hl : args.length = insV.nparams) (he : evCode call lim n insV.body ⟨fr0 args, [], H⟩ = some (e, s)) (hv : vres insV.results s.fr s.L s.H = some v) :
    ∃ x i y lx, args = [x, i, y] ∧ askIns [x, i, y] H = true ∧ vlenS x = some lx ∧ ∃ H1 tst, vappend lim 3 24 H x y = some (v, H1) ∧ vbin .eql i lx = some tst ∧ ((tst = .bool true ∧ s.H = H1) ∨ (tst = .bool false ∧
      ∃ i1 d1 s1 c1 H2 d2 c2, vbin .add i (.int .i64 1) = some i1 ∧ vslS 3 v (some i1) none = some d1 ∧ vslS 3 v (some i) (some lx) = some s1 ∧ vcopy lim 3 H1 d1 s1 = some (c1, H2) ∧ vslS 3 v (some i) none = some d2 ∧ vcopy lim 3 H2 d2 y = some (c2, s.H))) := by
  match args, hl with
  | [x, i, y], _ =>
  have ea : evX lim H (.ask askIns) [x, i, y] = if askIns [x, i, y] H = true then some (dv, H) else none := Eq.trans rfl rfl
  have f0 : fr0 [x, i, y] 0 = x := rfl
  have f1 : fr0 [x, i, y] 1 = i := rfl
  have f2 : fr0 [x, i, y] 2 = y := rfl
  cases h0 : askIns [x, i, y] H with
  | false =>
    exfalso
    rcases n with _ | _ | n
    · simp [evCode] at he
    · simp [evCode, insV] at he
    · simp [evCode, insV, evOps, evStep, evVal, wanted, evOp, List.map, opd, f0, f1, f2, ea, h0] at he
  | true =>
  cases h1 : vlenS x with
  | none =>
    exfalso
    rcases n with _ | _ | n
    · simp [evCode] at he
    · simp [evCode, insV] at he
    · simp [evCode, insV, evOps, evStep, evVal, wanted, f1, f2, ea, h0, putD, evOp, List.map, opd, f0, h1, pureV] at he
  | some lx =>
  cases h2 : vbin .eql i lx with
  | none =>
    exfalso
    rcases n with _ | _ | n
    · simp [evCode] at he
    · simp [evCode, insV] at he
    · simp [evCode, insV, evOps, evStep, evVal, wanted, f1, f2, ea, h0, putD, evOp, List.map, opd, f0, h1, pureV, upd, h2] at he
  | some tst =>
  cases h3 : vappend lim 3 24 H x y with
  | none =>
    exfalso
    rcases n with _ | _ | n
    · simp [evCode] at he
    · simp [evCode, insV] at he
    · simp [evCode, insV, evOps, evStep, evVal, wanted, f1, f2, ea, h0, putD, evOp, List.map, opd, f0, h1, pureV, upd, h2, h3] at he
  | some r =>
  obtain ⟨v1, H1⟩ := r
  obtain ⟨n, rfl⟩ : ∃ m, n = m + 3 := by
    rcases n with _ | _ | _ | n
    · simp [evCode] at he
    · simp [evCode, insV] at he
    · exfalso
      simp [evCode, insV, evOps, evStep, evVal, wanted, f1, f2, ea, h0, putD, evOp, List.map, opd, f0, h1, pureV, upd, h2, h3] at he
      split at he <;> cases he
    · exact ⟨n, rfl⟩
  refine ⟨x, i, y, lx, rfl, h0, h1, H1, tst, ?_⟩
  by_cases ht : tst = .bool true
  · subst ht
    simp [evCode, insV, evOps, evStep, evVal, wanted, f1, f2, ea, h0, putD, evOp, List.map, opd, opdO, opds, f0, h1, pureV, upd, h2, h3] at he
    obtain ⟨rfl, rfl⟩ := he
    simp [vres, resVs, insV, upd] at hv
    have hv2 : v1 = v := by
      cases hs : stor v1 <;> simp [hs] at hv
      exact hv
    subst hv2
    exact ⟨h3, h2, Or.inl ⟨rfl, rfl⟩⟩
  · by_cases ht2 : tst = .bool false
    · subst ht2
      simp [evCode, insV, evOps, evStep, evVal, wanted, f1, f2, ea, h0, putD, evOp, List.map, opd, opdO, opds, f0, h1, pureV, upd, h2, h3] at he
      cases g1 : vbin .add i (.int .i64 1) with
      | none => simp [g1] at he
      | some i1 =>
      simp [g1, upd, f1] at he
      cases g2 : vslS 3 v1 (some i1) none with
      | none => simp [g2] at he
      | some d1 =>
      simp [g2, upd, f1] at he
      cases g3 : vslS 3 v1 (some i) (some lx) with
      | none => simp [g3] at he
      | some s1 =>
      simp [g3, upd, f1] at he
      cases g4 : vcopy lim 3 H1 d1 s1 with
      | none => simp [g4] at he
      | some r4 =>
      obtain ⟨c1, H2⟩ := r4
      simp [g4, upd, f1] at he
      cases g5 : vslS 3 v1 (some i) none with
      | none => simp [g5] at he
      | some d2 =>
      simp [g5, upd, f2] at he
      cases g6 : vcopy lim 3 H2 d2 y with
      | none => simp [g6] at he
      | some r6 =>
      obtain ⟨c2, H3⟩ := r6
      simp [g6, upd] at he
      obtain ⟨rfl, rfl⟩ := he
      simp [vres, resVs, insV, upd] at hv
      have hv2 : v1 = v := by
        cases hs : stor v1 <;> simp [hs] at hv
        exact hv
      subst hv2
      exact ⟨h3, h2, Or.inr ⟨rfl, i1, d1, s1, c1, H2, d2, c2, rfl, g2, g3, g4, g5, g6⟩⟩
    · exfalso
      simp [evCode, insV, evOps, evStep, evVal, wanted, f1, f2, ea, h0, putD, evOp, List.map, opd, opdO, opds, f0, h1, pureV, upd, h2, h3] at he
theorem setCells_row (w : World) (g : Nat) (C : Array Value) (el : TypeId) (fz : Nat × Nat) (o : Nat) (vs : List Value) (hg : w.heap[g]? = some (.cells C el fz)) (hz : FzOk fz C.size) (hle : o + vs.length ≤ C.size) (h1 : ∀ v ∈ vs, v.oneCell' = true) :
    w.setCells g o vs = w.setRow g (C.toList.take o ++ vs ++ C.toList.drop (o + vs.length)).toArray := by
  have a := run_storeCells_fz Try.prog g o el vs 0 C w hg hz (by omega) h1
  have b := run_storeCells_cells (P := Try.prog) g o vs 0 w (fun j hj => by
    simp only [World.cell?, hg, Nat.add_zero]
    rw [Array.getElem?_eq_getElem (by omega)]; rfl) (fun j hj => by
    have := hz (o + j) (by omega)
    simp only [World.frozen?, hg, Nat.add_zero]
    simpa using this) h1
  simp only [Nat.add_zero] at a b
  rw [a] at b
  injection b with _ b
  exact b.symm
section
variable {ρ : Loc} {w : World} {H : Hp} {lim : Nat}
theorem rowAt_of {cs : List V} {ys : List Value} {C : Array Value} {o : Nat} (h : VRs ρ cs ys) (hs : Scals cs) (hC : ∀ j, j < cs.length → C[o + j]? = ys[j]?) : RowAt ρ cs C o := by
  intro j hj
  refine ⟨?_, hs j hj⟩
  have := h.2 j hj
  rw [Array.getD_eq_getD_getElem?, hC j hj]
  rwa [List.getD_eq_getElem?_getD (l := ys)] at this
theorem rowCells (hH : RelH ρ H w) {b r o c off m : Nat} {cs : List V} {own : Bool} (hb : H[b]? = some (.row cs own)) (hρ : ρ b = some (r, o, c)) (hoff : off + m ≤ cs.length) :
    ∃ C el fz, w.heap[r]? = some (.cells C el fz) ∧ o + c ≤ C.size ∧ cs.length ≤ c ∧ (own = true → FzOk fz C.size) ∧ VRs ρ ((cs.drop off).take m) ((C.toList.drop (o + off)).take m) ∧ Scals ((cs.drop off).take m) ∧
      (∀ j v, ((C.toList.drop (o + off)).take m)[j]? = some v → w.cell? ⟨r, o + off + j, none⟩ = some v) ∧ ∀ v ∈ (C.toList.drop (o + off)).take m, v.oneCell' = true := by
  obtain ⟨C, el, fz, h1, h2, h3, h4, h5⟩ := hH.row b r o c cs own hρ hb
  have hl1 : ((cs.drop off).take m).length = m := by simp; omega
  have hl2 : ((C.toList.drop (o + off)).take m).length = m := by simp; omega
  have hv : VRs ρ ((cs.drop off).take m) ((C.toList.drop (o + off)).take m) := by
    refine ⟨by rw [hl1, hl2], fun i hi => ?_⟩
    have hi' : i < m := by omega
    have := (h5 (off + i) (by omega)).1
    rw [List.getD_eq_getElem?_getD, List.getD_eq_getElem?_getD, List.getElem?_take_of_lt hi', List.getElem?_take_of_lt hi', List.getElem?_drop, List.getElem?_drop]
    rw [List.getD_eq_getElem?_getD, Array.getD_eq_getD_getElem?] at this
    simpa [Nat.add_assoc] using this
  have hs : Scals ((cs.drop off).take m) := by
    intro i hi
    have hi' : i < m := by omega
    have := (h5 (off + i) (by omega)).2
    rw [List.getD_eq_getElem?_getD, List.getElem?_take_of_lt hi', List.getElem?_drop]
    rwa [List.getD_eq_getElem?_getD] at this
  refine ⟨C, el, fz, h1, h2, h3, h4, hv, hs, fun j v hj => ?_, fun v hv' => ?_⟩
  · have hj' : j < m := by
      have := (List.getElem?_eq_some_iff.1 hj).1
      omega
    rw [List.getElem?_take_of_lt hj', List.getElem?_drop] at hj
    simp only [World.cell?, h1]
    simpa using hj
  · obtain ⟨i, hi, rfl⟩ := List.getElem_of_mem hv'
    have h6 := hv.2 i (by omega)
    have := h6.one (hs i (by omega))
    rw [List.getD_eq_getElem?_getD (l := List.take m (List.drop (o + off) C.toList)), List.getElem?_eq_getElem hi] at this
    exact this
/-- a row of one's own, changed in place: a new one takes its place -/
theorem in_place (hH : RelH ρ H w) {b r o c len cap : Nat} {cs cs' : List V} (hb : H[b]? = some (.row cs true)) (hρ : ρ b = some (r, o, c)) (hlim : lim ≤ b) (hfree : ρ H.length = none) {C C' : Array Value} {el : TypeId} {fz : Nat × Nat}
    (hg : w.heap[r]? = some (.cells C el fz)) (hfz : FzOk fz C'.size) (hC : o + c ≤ C'.size) (hcs : cs'.length ≤ c) (hrow : RowAt ρ cs' C' o) (hlen : len ≤ cap) (hcap : cap * 3 ≤ c) :
    ∃ ρ', VR ρ' (.sl H.length 0 len 3) (.slice (some ⟨r, o, none⟩) len cap) ∧ Grow lim (fun _ => True) ρ (fun _ => none) [] H w ρ' (fun _ => none) [] (H.set b .dead ++ [.row cs' true]) (w.drew.setRow r C') ∧ RelH ρ' (H.set b .dead ++ [.row cs' true]) (w.drew.setRow r C') := by
  have hH0 : RelH ρ H w.drew := ⟨hH.dom, hH.row, hH.inj, hH.mp.of (fun _ _ _ h => h) (fun _ _ _ _ => rfl) (fun _ _ h => h) fun _ _ _ _ _ _ _ _ _ => rfl⟩
  refine ⟨ρ.add H.length (r, o, c), ?_, ?_, hH0.rebirth hb hρ hfree (w := w.drew) hg hfz hC hcs hrow⟩
  · have := VR.sl (off := 0) (ρ := ρ.add H.length (r, o, c)) (b := H.length) (r := r) (o := o) (c := c) (sz := 3) (by simp [Loc.add]) hlen (by omega)
    simpa using this
  · refine ⟨rfl, rfl, rfl, by rw [setRow_size]; exact Nat.le_refl _, by simp, Nat.le_refl _, ?_, fun _ _ => rfl, ?_, fun i _ h1 h2 => absurd h2 (by simp), ?_, ?_⟩
    · intro b' hb'
      unfold Loc.add
      rw [if_neg]
      simp at hb'; omega
    · intro b' r' o' c' h1 h2 hb'
      have : b' = H.length := by simp at h2; omega
      subst this
      unfold Loc.add at hb'
      simp at hb'
      right
      exact ⟨b, o, c, hlim, ⟨_, hb, rfl⟩, by rw [hρ, hb'.1]⟩
    · intro r' hr' hno _
      exact setRow_other w.drew r r' _ (fun e' => hno (by subst e'; exact ⟨b, o, c, hlim, ⟨_, hb, rfl⟩, hρ⟩))
    · rintro b' hb' ⟨cs', hcs'⟩
      rw [List.getElem?_append_left (by simpa using hb')] at hcs'
      by_cases e' : b = b'
      · subst e'; exact ⟨_, hb, rfl⟩
      · rw [List.getElem?_set_ne e'] at hcs'; exact ⟨cs', hcs'⟩
/-- a new row, and the old one is not looked at any more -/
theorem in_new (hH : RelH ρ H w) {b len nc : Nat} {cs cs' : List V} {w' : World} (hb : H[b]? = some (.row cs true)) (hfree : ρ H.length = none) {C : Array Value} {el : TypeId}
    (h1 : w'.os = w.os) (h2 : w'.tape = w.tape) (h3 : w'.output = w.output) (f2 : w.heap.size < w'.heap.size) (f3 : ∀ r, r < w.heap.size → w'.heap[r]? = w.heap[r]?) (f4 : w'.heap[w.heap.size]? = some (.cells C el (0, 0)))
    (hC : nc * 3 ≤ C.size) (hcs : cs'.length ≤ nc * 3) (hrow : RowAt ρ cs' C 0) (hlen : len ≤ nc) :
    ∃ ρ', VR ρ' (.sl H.length 0 len 3) (.slice (some ⟨w.heap.size, 0, none⟩) len nc) ∧ Grow lim (fun _ => True) ρ (fun _ => none) [] H w ρ' (fun _ => none) [] (H.set b .dead ++ [.row cs' true]) w' ∧ RelH ρ' (H.set b .dead ++ [.row cs' true]) w' := by
  have hlenk : (H.set b Blk.dead).length = H.length := by simp
  have hpush := (hH.kill b).push (w' := w') (by rw [hlenk]; exact hfree) f2 f3 f4 hC hcs hrow FzOk.zero
  rw [hlenk] at hpush
  refine ⟨ρ.add H.length (w.heap.size, 0, nc * 3), vr_newsl hlen (Nat.le_refl _), ?_, hpush⟩
  refine ⟨h1, h2, h3, Nat.le_of_lt f2, by simp, Nat.le_refl _, ?_, fun _ _ => rfl, ?_, fun i _ h1 h2 => absurd h2 (by simp), fun r hr _ _ => f3 r hr, ?_⟩
  · intro b' hb'
    unfold Loc.add
    rw [if_neg]
    simp at hb'; omega
  · intro b' r' o' c' h1 h2 hb'
    have : b' = H.length := by simp at h2; omega
    subst this
    unfold Loc.add at hb'
    simp at hb'
    left; omega
  · rintro b' hb' ⟨cs', hcs'⟩
    rw [List.getElem?_append_left (by simpa using hb')] at hcs'
    by_cases e' : b = b'
    · subst e'; exact ⟨_, hb, rfl⟩
    · rw [List.getElem?_set_ne e'] at hcs'; exact ⟨cs', hcs'⟩
/-- what two copies leave: the row with three cells put in -/
theorem two_copies {α : Type} {L cs vs : List α} {o n k : Nat} (hcs : cs.length = n * 3) (hvs : vs.length = 3) (hk : k < n) (hL : o + (n + 1) * 3 ≤ L.length) (hLc : ∀ j, j < n * 3 → L[o + j]? = cs[j]?) (j : Nat) (hj : j < (n + 1) * 3) :
    ((L.take (o + (k + 1) * 3) ++ cs.drop (k * 3) ++ L.drop (o + (k + 1) * 3 + (cs.drop (k * 3)).length)).take (o + k * 3) ++ vs ++ (L.take (o + (k + 1) * 3) ++ cs.drop (k * 3) ++ L.drop (o + (k + 1) * 3 + (cs.drop (k * 3)).length)).drop (o + k * 3 + vs.length))[o + j]? =
      (cs.take (k * 3) ++ vs ++ cs.drop (k * 3))[j]? := by
  have hdl : (cs.drop (k * 3)).length = (n - k) * 3 := by rw [List.length_drop, hcs]; omega
  have l1 : (L.take (o + (k + 1) * 3)).length = o + (k + 1) * 3 := by rw [List.length_take]; omega
  have l2 : (L.take (o + (k + 1) * 3) ++ cs.drop (k * 3)).length = o + (n + 1) * 3 := by rw [List.length_append, l1, hdl]; omega
  generalize hM : L.take (o + (k + 1) * 3) ++ cs.drop (k * 3) ++ L.drop (o + (k + 1) * 3 + (cs.drop (k * 3)).length) = M
  have lM : o + (n + 1) * 3 ≤ M.length := by rw [← hM, List.length_append, l2]; omega
  have l3 : (M.take (o + k * 3)).length = o + k * 3 := by rw [List.length_take]; omega
  have l4 : (cs.take (k * 3)).length = k * 3 := by rw [List.length_take]; omega
  have m1 : ∀ i, i < o + (k + 1) * 3 → M[i]? = L[i]? := fun i hi => by
    rw [← hM, List.append_assoc, List.getElem?_append_left (by omega), List.getElem?_take_of_lt hi]
  have m2 : ∀ i, i < (n - k) * 3 → M[o + (k + 1) * 3 + i]? = cs[k * 3 + i]? := fun i hi => by
    rw [← hM, List.getElem?_append_left (by omega), List.getElem?_append_right (by omega), List.getElem?_drop, l1]
    congr 1; omega
  by_cases h1 : j < k * 3
  · rw [List.append_assoc, List.getElem?_append_left (by omega), List.getElem?_take_of_lt (by omega), List.append_assoc, List.getElem?_append_left (by omega), List.getElem?_take_of_lt h1, m1 _ (by omega)]
    exact hLc j (by omega)
  · by_cases h2 : j < k * 3 + 3
    · rw [List.append_assoc, List.getElem?_append_right (by omega), List.getElem?_append_left (by omega), List.append_assoc, List.getElem?_append_right (by omega), List.getElem?_append_left (by omega)]
      congr 1; omega
    · rw [List.getElem?_append_right (by rw [List.length_append]; omega), List.getElem?_append_right (by rw [List.length_append]; omega), List.length_append, List.length_append, List.getElem?_drop, List.getElem?_drop]
      have e1 : o + k * 3 + vs.length + (o + j - ((M.take (o + k * 3)).length + vs.length)) = o + (k + 1) * 3 + (j - (k + 1) * 3) := by omega
      rw [e1, m2 _ (by omega)]
      congr 1; omega
end
end Go.Proofs.Ytnfhccioglpjhaa.Vm
