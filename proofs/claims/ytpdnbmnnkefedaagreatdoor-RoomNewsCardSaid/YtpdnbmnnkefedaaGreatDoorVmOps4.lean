/- Operation by operation, the fourth part: rows of slices; append; copy. -/
import Derived.Test.YtpdnbmnnkefedaaGreatDoorVmOps3
namespace Go.Proofs.YtpdnbmnnkefedaaGreatDoor.Vm
open Go
set_option linter.unusedVariables false
set_option linter.unusedSimpArgs false

section
variable {P : Program} {lim : Nat} {tg A : Nat → Prop} {ρ : Loc} {lam : Lam} {L L' : Lo} {H H' : Hp} {w : World} {s : Sem Next} {fr : Fr} {a : Act}

theorem lenS_rel {v : V} {n : Int} {k : IntKind} {x : Value} (h : vlenS v = some (.int k n)) (hv : FV ρ lam v x) : ∃ ad len cap, x = .slice ad len cap ∧ n = (len : Int) ∧ k = .i64 ∧ (ad = none → len = 0) := by
  cases v <;> simp [vlenS] at h
  · have := hv.snil; subst this; exact ⟨none, 0, 0, rfl, h.2 ▸ rfl, h.1.symm, fun _ => rfl⟩
  · obtain ⟨r, o', c, cap, h1, h2, h3, rfl⟩ := hv.sl
    exact ⟨_, _, cap, rfl, h.2.symm, h.1.symm, fun e => by cases e⟩
  · obtain ⟨b, cap, rfl⟩ := hv.sempty
    exact ⟨_, 0, cap, rfl, h.2 ▸ rfl, h.1.symm, fun e => by cases e⟩
  · obtain ⟨r, o', c, cap, h1, h2, h3, h4, rfl⟩ := hv.slc
    exact ⟨_, _, cap, rfl, h.2.symm, h.1.symm, fun e => by cases e⟩
  · obtain ⟨b, rfl⟩ := hv.szero
    exact ⟨_, 0, 0, rfl, h.2 ▸ rfl, h.1.symm, fun e => by cases e⟩

/-- the first cells of a slice, loaded -/
theorem cells_rel {v : V} {cs : List V} {sz : Nat} {x : Value} (h : vcells sz H v = some cs) (hv : FV ρ lam v x) (hH : RelH ρ H w) {n : Nat} {kk : IntKind} (hn : vlenS v = some (.int kk (n : Int))) :
    ∃ ys, (∀ m, m ≤ n → (Builtin.firstCells sz m x).run P w = .ok (ys.take (m * sz)).toArray w) ∧ VRs ρ cs ys ∧ Scals cs ∧ ys.length = n * sz := by
  cases v <;> simp [vcells] at h
  · subst h
    have := hv.snil; subst this
    simp [vlenS] at hn
    have hn0 : n = 0 := by omega
    subst hn0
    exact ⟨[], fun m hm => by simp [Builtin.firstCells], .nil, fun i hi => absurd hi (by simp), by simp⟩
  · rename_i b off len sz'
    obtain ⟨r, o', c, cap, hρ, h2, h3, rfl⟩ := hv.sl
    simp [vlenS] at hn
    have hnl : n = len := by omega
    subst hnl
    obtain ⟨hs, h⟩ := h
    subst hs
    split at h
    case h_2 => cases h
    rename_i row own hb
    split at h
    case isFalse => cases h
    rename_i hle
    cases h
    obtain ⟨C, el, fz, g1, g2, g3, g4, g5⟩ := hH.row b r o' c row own hρ hb
    have hseg : ∀ m, m ≤ n → ((C.extract (o' + off) (o' + off + n * sz')).toList.take (m * sz')).length = m * sz' := by
      intro m hm
      have : m * sz' ≤ n * sz' := Nat.mul_le_mul_right _ hm
      simp; omega
    refine ⟨(C.extract (o' + off) (o' + off + n * sz')).toList, fun m hm => ?_, ?_, Scals.take (Scals.drop (fun i hi => (g5 i hi).2) _) _, by simp; omega⟩
    · have := run_loadCells_list (P := P) w ⟨r, o' + off, none⟩ ((C.extract (o' + off) (o' + off + n * sz')).toList.take (m * sz')) (fun j v hj => by
        rw [addr_add, cell_at g1]
        have hjl := (List.getElem?_eq_some_iff.1 hj).1
        rw [hseg m hm] at hjl
        rw [List.getElem?_take_of_lt hjl, Array.getElem?_toList, Array.getElem?_extract] at hj
        have : m * sz' ≤ n * sz' := Nat.mul_le_mul_right _ hm
        rw [← hj, if_pos (by omega)])
      rw [hseg m hm] at this
      simpa [Builtin.firstCells] using this
    · have e : (C.extract (o' + off) (o' + off + n * sz')).toList = ((C.extract o' (o' + row.length)).toList.drop off).take (n * sz') := by
        apply List.ext_getElem?
        intro j
        simp only [List.getElem?_take, List.getElem?_drop, Array.getElem?_toList, Array.getElem?_extract]
        by_cases hj : j < n * sz'
        · have h1 : j < min (o' + off + n * sz') C.size - (o' + off) := by omega
          have h2 : off + j < min (o' + row.length) C.size - o' := by omega
          simp only [hj, h1, h2, if_true, Nat.add_assoc]
          rw [if_pos (by omega)]
        · have h1 : ¬ j < min (o' + off + n * sz') C.size - (o' + off) := by omega
          simp only [hj, h1, if_false]
      rw [e]
      exact ((VRs.of_row g5 (by omega)).drop off).take _
  · subst h
    obtain ⟨b, cap, rfl⟩ := hv.sempty
    simp [vlenS] at hn
    have hn0 : n = 0 := by omega
    subst hn0
    exact ⟨[], fun m hm => by have : m = 0 := by omega
                              subst this
                              simp [Builtin.firstCells, loadCells, loadCellsFrom], .nil, fun i hi => absurd hi (by simp), by simp⟩

theorem sim_bslice {o : Oper} {t : TypeId} {n : Nat} {parts : Array (Nat × Operand)} {vo : VOp} (ho : o.op = .buildSlice t n parts) {glob : List Nat} (hsl : slimOp0 P glob o = some vo)
    (hF : FRel ρ lam fr a.tmps) (hH : RelH ρ H w) (hL : RelL A ρ lam L w) {v : V} (he : evOp lim fr L H vo = some (.val v L' H')) (hfR : FreeR ρ H.length H'.length) :
    OpSim P lim tg A ρ lam L H w (execOp a.eval o) v L' H' := by
  simp only [slimOp0, ho] at hsl
  split at hsl
  case h_2 => cases hsl
  rename_i e hu
  split at hsl
  case h_2 => cases hsl
  rename_i sz z hsz hz
  split at hsl
  · rename_i hmk
    cases hsl
    simp only [Bool.and_eq_true, beq_iff_eq] at hmk
    obtain ⟨⟨_, rfl⟩, hpe⟩ := hmk
    have hp0 : parts = #[] := by simpa using hpe
    subst hp0
    simp only [evOp, opds, evX, Option.some.injEq, VNext.val.injEq] at he
    obtain ⟨rfl, rfl, rfl⟩ := he
    obtain ⟨g1, g2, g3, g4⟩ := alloc_facts w (#[] : Array Value) e
    have hrun : (execOp a.eval o).run P w = .ok (.value (.slice (some ⟨w.heap.size, 0, none⟩) 0 0)) (w.alloc (.cells #[] e)) := by
      have er : Array.range 0 = #[] := rfl
      simp [execOp, ho, Instr.buildSlice, run_underlying hu, sizeV_run hsz, Instr.fill, newRow, er]
    exact ⟨_, ρ, lam, _, Or.inl hrun, .vr .szero, ⟨g1, rfl, rfl, Nat.le_of_lt g2, Nat.le_refl _, Nat.le_refl _, fun _ _ => rfl, fun _ _ => rfl, fun b _ _ _ h1 h2 => absurd h2 (by omega), fun i _ h1 h2 => absurd h2 (by omega), fun r hr _ _ => g3 r hr, fun _ _ h => h⟩, hH.keep (Nat.le_of_lt g2) g3, (hL.keep (Nat.le_of_lt g2) g3).wide⟩
  split at hsl
  case isFalse => cases hsl
  rename_i hb
  obtain ⟨hzl, hbound⟩ := hb
  simp only [Option.map_eq_some_iff] at hsl
  obtain ⟨vps, hvps, rfl⟩ := hsl
  obtain ⟨i, zv, hi, hz', k1, k2⟩ := zeroV_rel (ρ := ρ) hz
  simp only [evOp] at he
  split at he
  case h_2 => cases he
  rename_i cs hcs
  cases he
  have hzs : zv.cells.size = sz := by have := k1.1; simp at this; omega
  have hisz : (sizeOf e).run P w = .ok sz w := sizeV_run hsz
  -- the row of zeros
  have hrow0 : ∀ m, VRs ρ (rowOf m z) (List.replicate m zv.cells.toList).flatten ∧ Scals (rowOf m z) := by
    intro m
    induction m with
    | zero => exact ⟨by simpa [rowOf] using VRs.nil, by simpa [rowOf] using Scals.nil⟩
    | succ m ih => exact ⟨by simpa [rowOf, List.replicate_succ] using k1.append ih.1, by simpa [rowOf, List.replicate_succ] using k2.append ih.2⟩
  obtain ⟨q1, q2⟩ := hrow0 n
  have hflat : ∀ (m : Nat) (l : List Value), l.length = sz → ∀ j, j < m * sz → (List.replicate m l).flatten[j]? = l[j % sz]? := by
    intro m
    induction m with
    | zero => intro l _ j hj; simp at hj
    | succ m ih =>
      intro l hl j hj
      rw [List.replicate_succ, List.flatten_cons]
      by_cases hlt : j < sz
      · rw [List.getElem?_append_left (by omega), Nat.mod_eq_of_lt hlt]
      · rw [List.getElem?_append_right (by omega), hl, ih l hl (j - sz) (by rw [Nat.add_mul, Nat.one_mul] at hj; omega), Nat.mod_eq_sub_mod (a := j) (by omega)]
  have hlenflat : ∀ (m : Nat) (l : List Value), (List.replicate m l).flatten.length = m * l.length := by
    intro m l; simp
  let C0 : Array Value := (Array.range (n * sz)).map (zv.cells[· % zv.cells.size]!)
  have hC0 : C0.toList = (List.replicate n zv.cells.toList).flatten := by
    apply List.ext_getElem?
    intro j
    by_cases hj : j < n * sz
    · rw [hflat n zv.cells.toList (by simp; exact hzs) j hj]
      have hsz0 : 0 < sz := by rcases Nat.eq_zero_or_pos sz with h | h; (subst h; simp at hj); exact h
      have hlt : j % sz < zv.cells.size := by rw [hzs]; exact Nat.mod_lt _ hsz0
      simp only [C0, Array.toList_map, Array.toList_range, List.getElem?_map, List.getElem?_range hj, Option.map_some, Array.getElem?_toList, hzs]
      rw [Array.getElem?_eq_getElem hlt, getElem!_pos zv.cells (j % sz) hlt]
    · rw [List.getElem?_eq_none (by simp [C0]; omega), List.getElem?_eq_none (by rw [hlenflat]; simp [hzs]; omega)]
  rw [← hC0] at q1
  obtain ⟨C', f1, f2, f3, f4⟩ := fill_rel hF (partsA_rel hvps) q1 q2 hcs
  obtain ⟨g1, g2, g3, g4⟩ := alloc_facts w C' e
  have hlen : C'.size = cs.length := by have := f2.1; simp at this; omega
  have hrl : (rowOf n z).length = n * sz := by simp [rowOf, hzl]
  have hrun : (execOp a.eval o).run P w = .ok (.value (.slice (some ⟨w.heap.size, 0, none⟩) n n)) (w.alloc (.cells C' e)) := by
    have hz0 : (zeroValue e).run P w = .ok zv w := by simp [zeroValue, typeInfo, hi, hz']
    have hbound' : ¬ n * sz > 2 ^ 24 := by omega
    simp only [execOp, ho, Instr.buildSlice, Sem.run_bind, run_underlying hu, Result.andThen_ok, hisz, if_neg hbound', Sem.run_pure, map_pairs]
    by_cases h0 : n * sz = 0
    · have e0 : C0 = #[] := by simp [C0, h0]
      rw [e0] at f1
      have er : Array.range 0 = #[] := rfl
      simp [h0, er, f1, newRow]
    · simp only [C0] at f1
      simp [h0, hz0, f1, newRow]
  refine OpSim.pushH (c := n * sz) hH hL (by simpa using hfR) hrun ⟨g1, rfl, rfl⟩ g2 g3 g4 (by omega) (by omega) (RowAt.of_VRs f2 f3) (vr_newsl (Nat.le_refl _) (Nat.le_refl _))


theorem wrap_small {n : Int} (h : 0 ≤ n ∧ n ≤ 16777216) : IntKind.wrap .i64 n = n := by
  simp [IntKind.wrap, IntKind.bits, IntKind.signed]; omega

theorem sim_mks {o : Oper} {t : TypeId} {l c : Operand} {vo : VOp} (ho : o.op = .makeSlice t l c) {glob : List Nat} (hsl : slimOp0 P glob o = some vo)
    (hF : FRel ρ lam fr a.tmps) (hH : RelH ρ H w) (hL : RelL A ρ lam L w) {v : V} (he : evOp lim fr L H vo = some (.val v L' H')) (hfR : FreeR ρ H.length H'.length) :
    OpSim P lim tg A ρ lam L H w (execOp a.eval o) v L' H' := by
  simp only [slimOp0, ho] at hsl
  split at hsl
  case h_2 => cases hsl
  rename_i e x y hu hx hy
  split at hsl
  case h_2 => cases hsl
  rename_i i z hi hz
  split at hsl
  case isFalse => cases hsl
  rename_i hzl
  cases hsl
  simp only [evOp] at he
  split at he
  case h_2 => cases he
  rename_i k n k' m hn hm
  split at he
  case isFalse => cases he
  rename_i hc
  obtain ⟨rfl, h0, hb, hmax⟩ := hc
  cases he
  have hX := opd_rel hx hF
  rw [hn] at hX
  have hY := opd_rel hy hF
  rw [hm] at hY
  have ex : a.eval l = .int k n := hX.int
  have ey : a.eval c = .int k' n := hY.int
  obtain ⟨N, rfl⟩ : ∃ N : Nat, n = N := ⟨n.toNat, by omega⟩
  simp only [Int.toNat_natCast] at hb hfR ⊢
  obtain ⟨i', zv, hi', hz', k1, k2⟩ := zeroV_rel (ρ := ρ) hz
  have : i' = i := by rw [hi] at hi'; exact (Option.some.inj hi').symm
  subst this
  have hzs : zv.cells.size = i'.size := by have := k1.1; simp at this; omega
  have hrow0 : ∀ m, VRs ρ (rowOf m z) (List.replicate m zv.cells.toList).flatten ∧ Scals (rowOf m z) := by
    intro m
    induction m with
    | zero => exact ⟨by simpa [rowOf] using VRs.nil, by simpa [rowOf] using Scals.nil⟩
    | succ m ih => exact ⟨by simpa [rowOf, List.replicate_succ] using k1.append ih.1, by simpa [rowOf, List.replicate_succ] using k2.append ih.2⟩
  obtain ⟨q1, q2⟩ := hrow0 N
  have hflat : ∀ (m : Nat) (l : List Value), l.length = i'.size → ∀ j, j < m * i'.size → (List.replicate m l).flatten[j]? = l[j % i'.size]? := by
    intro m
    induction m with
    | zero => intro l _ j hj; simp at hj
    | succ m ih =>
      intro l hl j hj
      rw [List.replicate_succ, List.flatten_cons]
      by_cases hlt : j < i'.size
      · rw [List.getElem?_append_left (by omega), Nat.mod_eq_of_lt hlt]
      · rw [List.getElem?_append_right (by omega), hl, ih l hl (j - i'.size) (by rw [Nat.add_mul, Nat.one_mul] at hj; omega), Nat.mod_eq_sub_mod (a := j) (by omega)]
  have hlenflat : ∀ (m : Nat) (l : List Value), (List.replicate m l).flatten.length = m * l.length := by
    intro m l; simp
  let C0 : Array Value := (Array.range (N * i'.size)).map (zv.cells[· % zv.cells.size]!)
  have hC0 : C0.toList = (List.replicate N zv.cells.toList).flatten := by
    apply List.ext_getElem?
    intro j
    by_cases hj : j < N * i'.size
    · rw [hflat N zv.cells.toList (by simp; exact hzs) j hj]
      have hsz0 : 0 < i'.size := by rcases Nat.eq_zero_or_pos i'.size with h | h; (rw [h] at hj; simp at hj); exact h
      have hlt : j % i'.size < zv.cells.size := by rw [hzs]; exact Nat.mod_lt _ hsz0
      simp only [C0, Array.toList_map, Array.toList_range, List.getElem?_map, List.getElem?_range hj, Option.map_some, Array.getElem?_toList, hzs]
      rw [Array.getElem?_eq_getElem hlt, getElem!_pos zv.cells (j % i'.size) hlt]
    · rw [List.getElem?_eq_none (by simp [C0]; omega), List.getElem?_eq_none (by rw [hlenflat]; simp [hzs]; omega)]
  rw [← hC0] at q1
  obtain ⟨g1, g2, g3, g4⟩ := alloc_facts w C0 e
  have hcs : C0.size = N * i'.size := by simp [C0]
  have hrl : (rowOf N z).length = N * i'.size := by simp [rowOf, hzl]
  have hrun : (execOp a.eval o).run P w = .ok (.value (.slice (some ⟨w.heap.size, 0, none⟩) N N)) (w.alloc (.cells C0 e)) := by
    have hz0 : (zeroValue e).run P w = .ok zv w := by simp [zeroValue, typeInfo, hi, hz']
    have hw : IntKind.wrap .i64 (N : Int) = N := wrap_small ⟨by omega, by omega⟩
    have t1 : ¬ (281474976710656 < (i'.bytes : Int) * (N : Int)) := by
      have e1 : (i'.bytes : Int) * (N : Int) = ((N * i'.bytes : Nat) : Int) := by rw [Int.natCast_mul, Int.mul_comm]
      rw [e1]; omega
    have hneg : ¬ ((N : Int) < 0) := by omega
    have t2 : ¬ (roomBytes < N * i'.bytes) := by
      have : (16777216 : Nat) ≤ roomBytes := by decide
      omega
    simp only [execOp, ho, ex, ey, Instr.makeSlice, Sem.run_bind, run_underlying hu, Result.andThen_ok, asInt, asIntOf, Sem.run_pure, typeInfo, hi, sizeOf]
    by_cases h0 : N * i'.size = 0
    · have e0 : C0 = #[] := by simp [C0, h0]
      have er : Array.range 0 = #[] := rfl
      simp [hi', hw, t1, t2, hneg, askRoom, h0, er, newRow, e0]
    · simp [hi', hw, t1, t2, hneg, askRoom, h0, hz0, newRow, C0]
  refine OpSim.pushH (c := N * i'.size) hH hL (by simpa using hfR) hrun ⟨g1, rfl, rfl⟩ g2 g3 g4 (by omega) (by omega) (RowAt.of_VRs q1 q2) (vr_newsl (Nat.le_refl _) (Nat.le_refl _))

theorem nat_of_int {k k' : IntKind} {n : Int} {m : Nat} (h : V.int k n = V.int k' (m : Int)) : n = m := by cases h; rfl

/-- append, the model's: to a slice that has no room, or to none -/
theorem run_append_grows {st xt ty e : TypeId} {i : TypeInfo} {zv : Value} (hus : P.underlying st = some (.slice e)) {e2 : TypeId} (hux : P.underlying xt = some (.slice e2)) (hi : P.info? e = some i) (hz : i.zero = some zv)
    (hb : 0 < i.bytes) {base : Option Addr} {n cap m : Nat} {x : Value} (hlen : (Builtin.lenOf x).run P w = .ok m w) (hroom : cap < n + m) (hsize : (n + m) * i.bytes ≤ 140737488355328)
    {old new : List Value} (ho : (Builtin.firstCells i.size n (.slice base n cap)).run P w.drew = .ok old.toArray w.drew) (hn : (Builtin.firstCells i.size m x).run P w.drew = .ok new.toArray w.drew) :
    ∃ nc, n + m ≤ nc ∧ (Builtin.append_ #[st, xt] ty #[.slice base n cap, x]).run P w =
      .ok (.slice (some ⟨w.heap.size, 0, none⟩) (n + m) nc) (w.drew.alloc (.cells (old.toArray ++ new.toArray ++ Builtin.zeroCells zv.cells (nc - (n + m))) e)) := by
  let q := Question.appendCap (n + m) cap e
  refine ⟨q.cut (w.tape w.drawn q), ?_, ?_⟩
  · simp only [q, Question.cut]; omega
  have h48 : ¬ (Builtin.nextslicecap (n + m) cap) * i.bytes > 2 ^ 48 := by
    have h1 := nextslicecap_le (need := n + m) hroom
    have h2 : Builtin.nextslicecap (n + m) cap * i.bytes ≤ 2 * (n + m) * i.bytes := Nat.mul_le_mul_right _ h1
    rw [Nat.mul_assoc] at h2
    omega
  have hno : ¬ (n + m ≤ cap) := by omega
  have hb0 : ¬ (i.bytes = 0) := by omega
  simp [Builtin.append_, run_underlying hus, run_underlying hux, sizeOf, typeInfo, hi, hlen, hno, h48, hb0, q, Question.forced, ho, hn, zeroValue, hz, newRow]
  have e1 : (old ++ new).toArray = old.toArray ++ new.toArray := by simp
  rw [e1, Array.append_assoc]

theorem run_append_fits {st xt ty e : TypeId} {i : TypeInfo} (hus : P.underlying st = some (.slice e)) {e2 : TypeId} (hux : P.underlying xt = some (.slice e2)) (hi : P.info? e = some i)
    {ad : Addr} {n cap m : Nat} {x : Value} (hlen : (Builtin.lenOf x).run P w = .ok m w) (hroom : n + m ≤ cap) {new : List Value} (hn : (Builtin.firstCells i.size m x).run P w = .ok new.toArray w)
    {w' : World} (hst : (storeCells (ad.add (n * i.size)) new).run P w = .ok () w') :
    (Builtin.append_ #[st, xt] ty #[.slice (some ad) n cap, x]).run P w = .ok (.slice (some ad) (n + m) cap) w' := by
  simp [Builtin.append_, run_underlying hus, run_underlying hux, sizeOf, typeInfo, hi, hlen, hroom, hn, hst]

theorem run_append_nothing {st xt ty e : TypeId} {i : TypeInfo} (hus : P.underlying st = some (.slice e)) {e2 : TypeId} (hux : P.underlying xt = some (.slice e2)) (hi : P.info? e = some i)
    {x : Value} (hlen : (Builtin.lenOf x).run P w = .ok 0 w) (hn : (Builtin.firstCells i.size 0 x).run P w = .ok #[] w) :
    (Builtin.append_ #[st, xt] ty #[.slice none 0 0, x]).run P w = .ok (.slice none 0 0) w := by
  simp [Builtin.append_, run_underlying hus, run_underlying hux, sizeOf, typeInfo, hi, hlen, hn]

theorem lenOf_run {ad : Option Addr} {n c : Nat} : (Builtin.lenOf (.slice ad n c)).run P w = .ok n w := by simp [Builtin.lenOf]

/-- a row dies: what stood stands, of the others -/
theorem RelH.kill (h : RelH ρ H w) (b : Nat) : RelH ρ (H.set b .dead) w := by
  have hget : ∀ (b' : Nat) (cs : List V) (own : Bool), (H.set b Blk.dead)[b']? = some (Blk.row cs own) → H[b']? = some (Blk.row cs own) := by
    intro b' cs own hb'
    by_cases e : b = b'
    · subst e
      by_cases hlt : b < H.length
      · rw [List.getElem?_set_self hlt] at hb'; cases hb'
      · rw [List.getElem?_eq_none (by simp; omega)] at hb'; cases hb'
    · rwa [List.getElem?_set_ne e] at hb'
  refine ⟨h.dom, fun b' r o c cs own h1 h2 => h.row b' r o c cs own h1 (hget _ _ _ h2), fun b1 b2 r o1 c1 o2 c2 cs1 cs2 own2 h1 h2 k1 k2 => h.inj b1 b2 r o1 c1 o2 c2 cs1 cs2 own2 h1 h2 (hget _ _ _ k1) (hget _ _ _ k2), h.mp.of (fun b' es hx hb' => ?_) (fun _ _ _ _ => rfl) (fun _ _ h => h) fun _ _ _ _ _ _ _ _ _ => rfl⟩
  by_cases e : b = b'
  · subst e
    by_cases hlt : b < H.length
    · rw [List.getElem?_set_self hlt] at hb'; cases hb'; cases hx
    · rw [List.getElem?_eq_none (by simp; omega)] at hb'; cases hb'
  · rwa [List.getElem?_set_ne e] at hb'

/-- a row that takes a dead one's place: the same block of the model's, the new cells in it -/
theorem RelH.rebirth (h : RelH ρ H w) {b r o c : Nat} {cs cs' : List V} (hb : H[b]? = some (.row cs true)) (hρ : ρ b = some (r, o, c)) (hfree : ρ H.length = none) {C C' : Array Value} {el : TypeId}
    {fz : Nat × Nat} (hg : w.heap[r]? = some (.cells C el fz)) (hfz : FzOk fz C'.size) (hC : o + c ≤ C'.size) (hcs : cs'.length ≤ c) (hrow : RowAt ρ cs' C' o) :
    RelH (ρ.add H.length (r, o, c)) (H.set b .dead ++ [.row cs' true]) (w.setRow r C') := by
  have hlt : b < H.length := (List.getElem?_eq_some_iff.1 hb).1
  have hle := Loc.add_le (x := (r, o, c)) hfree
  have hback : ∀ b' x, (ρ.add H.length (r, o, c)) b' = some x → (b' = H.length ∧ x = (r, o, c)) ∨ (b' ≠ H.length ∧ ρ b' = some x) := by
    intro b' x hb'
    unfold Loc.add at hb'
    split at hb'
    · rename_i e; exact Or.inl ⟨e, (Option.some.inj hb').symm⟩
    · rename_i e; exact Or.inr ⟨e, hb'⟩
  have hget : ∀ b' cs1 own, (H.set b Blk.dead ++ [Blk.row cs' true])[b']? = some (.row cs1 own) → (b' = H.length ∧ cs1 = cs' ∧ own = true) ∨ (b' ≠ H.length ∧ b' ≠ b ∧ H[b']? = some (.row cs1 own)) := by
    intro b' cs1 own hb'
    by_cases hl : b' < H.length
    · rw [List.getElem?_append_left (by simpa using hl)] at hb'
      by_cases e : b = b'
      · subst e; rw [List.getElem?_set_self hlt] at hb'; cases hb'
      · rw [List.getElem?_set_ne e] at hb'; exact Or.inr ⟨by omega, fun e' => e e'.symm, hb'⟩
    · have hl2 := (List.getElem?_eq_some_iff.1 hb').1
      have e : b' = H.length := by simp at hl2; omega
      subst e
      have : (H.set b Blk.dead ++ [Blk.row cs' true])[H.length]? = some (Blk.row cs' true) := by
        simp
      rw [this] at hb'; cases hb'; exact Or.inl ⟨rfl, rfl, rfl⟩
  have hgetM : ∀ (b' : Nat) (es : Blk), spB es = true → (H.set b Blk.dead ++ [Blk.row cs' true])[b']? = some es → b' ≠ H.length ∧ H[b']? = some es := by
    intro b' es hx hb'
    by_cases hl : b' < H.length
    · rw [List.getElem?_append_left (by simpa using hl)] at hb'
      by_cases e : b = b'
      · subst e; rw [List.getElem?_set_self hlt] at hb'; cases hb'; cases hx
      · rw [List.getElem?_set_ne e] at hb'; exact ⟨by omega, hb'⟩
    · have hl2 := (List.getElem?_eq_some_iff.1 hb').1
      have e : b' = H.length := by simp at hl2; omega
      subst e
      have : (H.set b Blk.dead ++ [Blk.row cs' true])[H.length]? = some (Blk.row cs' true) := by simp
      rw [this] at hb'; cases hb'; cases hx
  refine ⟨fun b' r' o' c' hb' => ?_, fun b' r' o' c' cs1 own hb' hr' => ?_, fun b1 b2 r' o1 c1 o2 c2 cs1 cs2 own2 h1 h2 hr1 hr2 => ?_,
    h.mp.of (fun b' es hx hb' => (hgetM b' es hx hb').2) (fun b' es hx hb' => by unfold Loc.add; rw [if_neg (hgetM b' es hx hb').1]) hle fun b' r' o' c' es _ _ h2 h3 => setRow_other w r r' _ fun e => by subst e; obtain ⟨_, h4, h5⟩ := h3; rw [hg] at h4; cases h4; exact h5.nc⟩
  · rcases hback b' _ hb' with ⟨_, e⟩ | ⟨_, e⟩
    · cases e; rw [setRow_size]; exact h.dom b _ _ _ hρ
    · rw [setRow_size]; exact h.dom b' r' o' c' e
  · rcases hget b' cs1 own hr' with ⟨rfl, rfl, rfl⟩ | ⟨n1, n2, e⟩
    · rcases hback _ _ hb' with ⟨_, e⟩ | ⟨n, _⟩
      · cases e
        exact ⟨C', el, fz, setRow_heap w r C C' el fz hg, hC, hcs, fun _ => hfz, hrow.mono hle⟩
      · exact absurd rfl n
    · rcases hback _ _ hb' with ⟨n, _⟩ | ⟨_, e'⟩
      · exact absurd n n1
      · have hrr : r' ≠ r := by
          intro e2; subst e2
          exact n2 (h.inj b b' r' o c o' c' cs cs1 own hρ e' hb e).symm
        obtain ⟨C1, el1, fz, g1, g2, g3, g4, g5⟩ := h.row b' r' o' c' cs1 own e' e
        exact ⟨C1, el1, fz, by rw [setRow_other w r r' C' hrr]; exact g1, g2, g3, g4, g5.mono hle⟩
  · have key : ∀ b' r' o' c' cs1 own, (ρ.add H.length (r, o, c)) b' = some (r', o', c') → (H.set b Blk.dead ++ [Blk.row cs' true])[b']? = some (.row cs1 own) →
        (b' = H.length ∧ r' = r) ∨ (b' ≠ H.length ∧ b' ≠ b ∧ ρ b' = some (r', o', c') ∧ H[b']? = some (.row cs1 own)) := by
      intro b' r' o' c' cs1 own hb' hr'
      rcases hget b' cs1 own hr' with ⟨e, _, _⟩ | ⟨n1, n2, e⟩
      · rcases hback _ _ hb' with ⟨_, e'⟩ | ⟨n, _⟩
        · cases e'; exact Or.inl ⟨e, rfl⟩
        · exact absurd e n
      · rcases hback _ _ hb' with ⟨n, _⟩ | ⟨_, e'⟩
        · exact absurd n n1
        · exact Or.inr ⟨n1, n2, e', e⟩
    rcases key b1 _ _ _ _ _ h1 hr1 with ⟨e1, f1⟩ | ⟨n1, m1, p1, q1⟩ <;> rcases key b2 _ _ _ _ _ h2 hr2 with ⟨e2, f2⟩ | ⟨n2, m2, p2, q2⟩
    · omega
    · subst f1; exact absurd (h.inj b b2 r' o c o2 c2 cs cs2 own2 hρ p2 hb q2).symm m2
    · subst f2; exact absurd (h.inj b1 b r' o1 c1 o c cs1 cs true p1 hρ q1 hb) m1
    · exact h.inj b1 b2 r' o1 c1 o2 c2 cs1 cs2 own2 p1 p2 q1 q2

theorem RelL.addSame {b r o c nb : Nat} (h : RelL A ρ lam L w) (hρ : ρ b = some (r, o, c)) (hfree : ρ nb = none) (C' : Array Value) : RelL A (ρ.add nb (r, o, c)) lam L (w.setRow r C') := by
  have h1 := h.writeH hρ C'
  refine ⟨h1.dom, h1.inj, fun i r' b' o' c' hi hb => ?_, fun i r' cs ha hi hc => (h1.row i r' cs ha hi hc).mono (Loc.add_le hfree)⟩
  unfold Loc.add at hb
  split at hb
  · cases hb; exact h.disj i _ b o c hi hρ
  · exact h.disj i r' b' o' c' hi hb

/-- APPEND -/
theorem sim_append {st xt ty e : TypeId} {i : TypeInfo} {zv : Value} (hus : P.underlying st = some (.slice e)) {e2 : TypeId} (hux : P.underlying xt = some (.slice e2)) (hi : P.info? e = some i) (hz : i.zero = some zv)
    (hzs : zv.cells.size = i.size) (hb : 0 < i.bytes) {X Y : V} {x y : Value} (hX : FV ρ lam X x) (hY : FV ρ lam Y y)
    (hs : s.run P w = ((Builtin.append_ #[st, xt] ty #[x, y]).run P w).andThen fun v w => .ok (.value v) w) (hH : RelH ρ H w) (hL : RelL A ρ lam L w) {v : V}
    (he : vappend lim i.size i.bytes H X Y = some (v, H')) (hfR : FreeR ρ H.length H'.length) : OpSim P lim tg A ρ lam L H w s v L H' := by
  unfold vappend at he
  split at he
  case h_2 => cases he
  rename_i new kk k hcell hk
  obtain ⟨ad, m, cap2, rfl, hkm, hkk, hadn⟩ := lenS_rel hk hY
  subst hkm
  obtain ⟨ys, hfc, hys, hsc, hysl⟩ := cells_rel (P := P) hcell hY hH hk
  obtain ⟨ys', hfc', hys', hsc', hysl'⟩ := cells_rel (P := P) hcell hY hH.drew hk
  have hlen : ∀ w : World, (Builtin.lenOf (.slice ad m cap2)).run P w = .ok m w := fun w => lenOf_run
  have hnew : new.length = m * i.size := by rw [hys.1]; exact hysl
  split at he
  · -- to nil
    have := hX.snil; subst this
    split at he
    · rename_i hk0
      cases he
      have hm0 : m = 0 := by omega
      subst hm0
      have h0 := hfc 0 (Nat.le_refl _)
      refine OpSim.pure (x := .slice none 0 0) ?_ (.vr .snil) hH hL
      rw [hs, run_append_nothing hus hux hi (hlen w) (by simpa using h0)]
      rfl
    · rename_i hk0
      split at he
      case isFalse => cases he
      rename_i hbd
      split at he
      case isFalse => cases he
      cases he
      simp only [Int.toNat_natCast] at hbd hfR ⊢
      have h1 := hfc' m (Nat.le_refl _)
      rw [List.take_of_length_le (by omega)] at h1
      obtain ⟨nc, hnc, hrun⟩ := run_append_grows (P := P) (w := w) (base := none) (n := 0) (cap := 0) (ty := ty) (old := []) hus hux hi hz hb (hlen w) (by omega) (by simpa using hbd) (by simp [Builtin.firstCells]) h1
      simp only [Nat.zero_add] at hnc hrun
      have hCsz : (([] : List Value).toArray ++ ys'.toArray ++ Builtin.zeroCells zv.cells (nc - m)).size = nc * i.size := by
        simp only [Builtin.zeroCells, hzs, List.append_toArray, List.nil_append, Array.size_append, List.size_toArray, Array.size_map, Array.size_range, hysl']
        rw [← Nat.add_mul]; congr 1; omega
      obtain ⟨f1, f2, f3, f4⟩ := alloc_facts w.drew (([] : List Value).toArray ++ ys'.toArray ++ Builtin.zeroCells zv.cells (nc - m)) e
      refine OpSim.pushH (c := nc * i.size) hH hL (by simpa using hfR) (by rw [hs, hrun]; rfl) ⟨f1, rfl, rfl⟩ f2 f3 f4 (Nat.le_of_eq hCsz.symm) ?_ ?_ (vr_newsl hnc (Nat.le_refl _))
      · rw [hnew]; exact Nat.mul_le_mul_right _ hnc
      · refine RowAt.of_prefix hys' hsc (fun j hj => ?_)
        rw [Array.getElem?_append_left (by simp [hysl']; omega)]
        simp
  · -- to a row of one's own
    rename_i b off len sz'
    obtain ⟨r, o, c, cap, hρ, h2, h3, rfl⟩ := hX.sl
    split at he
    case isFalse => cases he
    rename_i hcond
    obtain ⟨hsz, rfl, hlim⟩ := hcond
    subst hsz
    simp only [Nat.add_zero] at hs
    split at he
    case h_2 => cases he
    rename_i cs hbl
    split at he
    case isFalse => cases he
    rename_i hcsl
    split at he
    case isFalse => cases he
    rename_i hbd
    split at he
    case isFalse => cases he
    cases he
    simp only [Int.toNat_natCast, Nat.add_zero] at hbd hfR ⊢
    obtain ⟨C, el, fz, g1, gz, g2, g3, g4⟩ := size_rel hH hρ hbl
    have hlt : b < H.length := (List.getElem?_eq_some_iff.1 hbl).1
    have hfree : ρ H.length = none := hfR _ (Nat.le_refl _) (by simp)
    have hcells : RowAt ρ cs C o := g4
    have hcv : VRs ρ cs (C.extract o (o + cs.length)).toList := VRs.of_row g4 (by omega)
    have hcsc : Scals cs := fun i hi => (g4 i hi).2
    by_cases hroom : len + m ≤ cap
    · -- there is room
      have h1 := hfc m (Nat.le_refl _)
      rw [List.take_of_length_le (by omega)] at h1
      have hle : o + len * i.size + ys.length ≤ C.size := by
        have : (len + m) * i.size ≤ cap * i.size := Nat.mul_le_mul_right _ hroom
        rw [Nat.add_mul] at this; omega
      have hst := run_storeCells_fz P r (o + len * i.size) el ys 0 C w g1 gz (by simpa using hle) (one_of hys hsc)
      simp only [Nat.add_zero] at hst
      have hrun := run_append_fits (P := P) (w := w) (ad := ⟨r, o, none⟩) (n := len) (cap := cap) (ty := ty) hus hux hi (hlen w) hroom h1 (by rw [addr_add]; exact hst)
      have hrow : RowAt ρ (cs ++ new) (List.take (o + len * i.size) C.toList ++ ys ++ List.drop (o + len * i.size + ys.length) C.toList).toArray o := by
        intro j hj
        refine ⟨?_, (hcsc.append hsc) j hj⟩
        have htl : (C.toList.take (o + len * i.size)).length = o + len * i.size := by simp; omega
        simp only [List.getD_eq_getElem?_getD, Array.getD_eq_getD_getElem?, List.getElem?_toArray]
        by_cases hj1 : j < cs.length
        · rw [List.getElem?_append_left hj1, List.append_assoc, List.getElem?_append_left (by omega), List.getElem?_take_of_lt (by omega), Array.getElem?_toList]
          have := (g4 j hj1).1
          simpa [List.getD_eq_getElem?_getD, Array.getD_eq_getD_getElem?] using this
        · have hj2 : j - cs.length < new.length := by simp at hj; omega
          rw [List.getElem?_append_right (by omega), List.append_assoc, List.getElem?_append_right (by omega), htl, List.getElem?_append_left (by rw [hysl, ← hnew]; omega)]
          have := hys.2 (j - cs.length) hj2
          rw [show o + j - (o + len * i.size) = j - cs.length by omega]
          simpa [List.getD_eq_getElem?_getD] using this
      have hC' : (List.take (o + len * i.size) C.toList ++ ys ++ List.drop (o + len * i.size + ys.length) C.toList).toArray.size = C.size := by
        simp only [List.size_toArray, List.length_append, List.length_take, List.length_drop, Array.length_toList]; omega
      revert hrun hrow hC'
      generalize (List.take (o + len * i.size) C.toList ++ ys ++ List.drop (o + len * i.size + ys.length) C.toList).toArray = C'
      intro hrun hrow hC'
      have hnl : (cs ++ new).length ≤ c := by
        have : (len + m) * i.size ≤ cap * i.size := Nat.mul_le_mul_right _ hroom
        rw [List.length_append, hcsl, hnew, ← Nat.add_mul]; omega
      refine ⟨.slice (some ⟨r, o, none⟩) (len + m) cap, ρ.add H.length (r, o, c), lam, w.setRow r C', Or.inl (by rw [hs, hrun]; rfl), .vr ?_, ?_, hH.rebirth hbl hρ hfree g1 (by rw [hC']; exact gz) (by omega) hnl hrow, (hL.addSame hρ hfree C').wide⟩
      · have := VR.sl (off := 0) (ρ := ρ.add H.length (r, o, c)) (b := H.length) (r := r) (o := o) (c := c) (sz := i.size) (by simp [Loc.add]) hroom (by omega)
        simpa using this
      · refine ⟨rfl, rfl, rfl, by simp, by simp, Nat.le_refl _, ?_, fun _ _ => rfl, ?_, fun i _ h1 h2 => absurd h2 (by omega), ?_, ?_⟩
        · intro b' hb'
          unfold Loc.add
          rw [if_neg]
          simp at hb'; omega
        · intro b' r' o' c' h1 h2 hb'
          have : b' = H.length := by simp at h2; omega
          subst this
          unfold Loc.add at hb'
          simp at hb'
          right
          exact ⟨b, o, c, hlim, ⟨_, hbl, rfl⟩, by rw [hρ, hb'.1]⟩
        · intro r' hr' hno _
          exact setRow_other w r r' _ (fun e' => hno (by subst e'; exact ⟨b, o, c, hlim, ⟨_, hbl, rfl⟩, hρ⟩))
        · rintro b' hb' ⟨cs', hcs'⟩
          rw [List.getElem?_append_left (by simpa using hb')] at hcs'
          by_cases e' : b = b'
          · subst e'; exact ⟨_, hbl, rfl⟩
          · rw [List.getElem?_set_ne e'] at hcs'; exact ⟨cs', hcs'⟩
    · -- it grows
      have h1 := hfc' m (Nat.le_refl _)
      rw [List.take_of_length_le (by omega)] at h1
      have hold : (Builtin.firstCells i.size len (.slice (some ⟨r, o, none⟩) len cap)).run P w.drew = .ok (C.extract o (o + cs.length)).toList.toArray w.drew := by
        have := run_loadCells_list (P := P) w.drew ⟨r, o, none⟩ (C.extract o (o + cs.length)).toList (fun j v hj => by
          rw [addr_add, cell_at (w := w.drew) g1]
          have hjl := (List.getElem?_eq_some_iff.1 hj).1
          rw [Array.getElem?_toList, Array.getElem?_extract] at hj
          rw [← hj, if_pos (by simp at hjl; omega)])
        have hl : (C.extract o (o + cs.length)).toList.length = len * i.size := by simp; omega
        rw [hl] at this
        simpa [Builtin.firstCells] using this
      obtain ⟨nc, hnc, hrun⟩ := run_append_grows (P := P) (w := w) (base := some ⟨r, o, none⟩) (n := len) (cap := cap) (ty := ty) hus hux hi hz hb (hlen w) (by omega) hbd hold h1
      have hol : (C.extract o (o + cs.length)).toList.length = cs.length := by simp; omega
      have hCsz : ((C.extract o (o + cs.length)).toList.toArray ++ ys'.toArray ++ Builtin.zeroCells zv.cells (nc - (len + m))).size = nc * i.size := by
        simp only [Builtin.zeroCells, hzs, Array.size_append, List.size_toArray, Array.size_map, Array.size_range, hysl']
        rw [hol, hcsl, ← Nat.add_mul, ← Nat.add_mul]; congr 1; omega
      obtain ⟨f1, f2, f3, f4⟩ := alloc_facts w.drew ((C.extract o (o + cs.length)).toList.toArray ++ ys'.toArray ++ Builtin.zeroCells zv.cells (nc - (len + m))) e
      have hrow : RowAt ρ (cs ++ new) ((C.extract o (o + cs.length)).toList.toArray ++ ys'.toArray ++ Builtin.zeroCells zv.cells (nc - (len + m))) 0 := by
        refine RowAt.of_prefix (hcv.append hys') (hcsc.append hsc) (fun j hj => ?_)
        have hjl : j < cs.length + new.length := by simpa using hj
        rw [Array.getElem?_append_left (by simp [hysl']; omega)]
        simp
      have hkill : RelH ρ (H.set b .dead) w := hH.kill b
      have hlenk : (H.set b Blk.dead).length = H.length := by simp
      have hfree' : ρ (H.set b Blk.dead).length = none := by rw [hlenk]; exact hfree
      have hpush := hkill.push (w' := w.drew.alloc (.cells ((C.extract o (o + cs.length)).toList.toArray ++ ys'.toArray ++ Builtin.zeroCells zv.cells (nc - (len + m))) e)) hfree' f2 f3 f4 (Nat.le_of_eq hCsz.symm) (cs := cs ++ new)
        (by rw [List.length_append, hcsl, hnew, ← Nat.add_mul]; exact Nat.mul_le_mul_right _ hnc) hrow
      rw [hlenk] at hpush
      refine ⟨.slice (some ⟨w.heap.size, 0, none⟩) (len + m) nc, ρ.add H.length (w.heap.size, 0, nc * i.size), lam, _, Or.inl (by rw [hs, hrun]; rfl), .vr (vr_newsl hnc (Nat.le_refl _)), ?_, hpush FzOk.zero, (hL.pushH hfree f2 f3).wide⟩
      refine ⟨f1, rfl, rfl, Nat.le_of_lt f2, by simp, Nat.le_refl _, ?_, fun _ _ => rfl, ?_, fun i _ h1 h2 => absurd h2 (by omega), fun r hr _ _ => f3 r hr, ?_⟩
      · intro b' hb'
        unfold Loc.add
        rw [if_neg]
        simp at hb'; omega
      · intro b' r' o' c' h1 h2 hb'
        have : b' = H.length := by simp at h2; omega
        subst this
        unfold Loc.add at hb'
        simp at hb'
        left; omega
      · rintro b' hb' ⟨cs', hcs'⟩
        rw [List.getElem?_append_left (by simpa using hb')] at hcs'
        by_cases e' : b = b'
        · subst e'; exact ⟨_, hbl, rfl⟩
        · rw [List.getElem?_set_ne e'] at hcs'; exact ⟨cs', hcs'⟩
  · -- to an empty one without room
    obtain ⟨ad0, rfl⟩ := hX.szero
    split at he
    · rename_i hk0
      cases he
      have hm0 : m = 0 := by omega
      subst hm0
      have h0 := hfc 0 (Nat.le_refl _)
      refine OpSim.pure (x := .slice (some ad0) 0 0) ?_ (.vr .szero) hH hL
      rw [hs, run_append_fits (P := P) (w := w) (ad := ad0) (n := 0) (cap := 0) (ty := ty) hus hux hi lenOf_run (Nat.le_refl _) (new := []) (by simpa using h0) (w' := w) (by simp [storeCells])]
      rfl
    · rename_i hk0
      split at he
      case isFalse => cases he
      rename_i hbd
      split at he
      case isFalse => cases he
      cases he
      simp only [Int.toNat_natCast] at hbd hfR ⊢
      have h1 := hfc' m (Nat.le_refl _)
      rw [List.take_of_length_le (by omega)] at h1
      obtain ⟨nc, hnc, hrun⟩ := run_append_grows (P := P) (w := w) (base := some ad0) (n := 0) (cap := 0) (ty := ty) (old := []) hus hux hi hz hb lenOf_run (by omega) (by simpa using hbd) (by simp [Builtin.firstCells, loadCells, loadCellsFrom]) h1
      simp only [Nat.zero_add] at hnc hrun
      have hCsz : (([] : List Value).toArray ++ ys'.toArray ++ Builtin.zeroCells zv.cells (nc - m)).size = nc * i.size := by
        simp only [Builtin.zeroCells, hzs, List.append_toArray, List.nil_append, Array.size_append, List.size_toArray, Array.size_map, Array.size_range, hysl']
        rw [← Nat.add_mul]; congr 1; omega
      obtain ⟨f1, f2, f3, f4⟩ := alloc_facts w.drew (([] : List Value).toArray ++ ys'.toArray ++ Builtin.zeroCells zv.cells (nc - m)) e
      refine OpSim.pushH (c := nc * i.size) hH hL (by simpa using hfR) (by rw [hs, hrun]; rfl) ⟨f1, rfl, rfl⟩ f2 f3 f4 (Nat.le_of_eq hCsz.symm) ?_ ?_ (vr_newsl hnc (Nat.le_refl _))
      · rw [hnew]; exact Nat.mul_le_mul_right _ hnc
      · refine RowAt.of_prefix hys' hsc (fun j hj => ?_)
        rw [Array.getElem?_append_left (by simp [hysl']; omega)]
        simp
  · cases he

/-- COPY -/
theorem sim_copy {dt xt ty e : TypeId} {sz : Nat} (hud : P.underlying dt = some (.slice e)) (hsz : sizeV P e = some sz) {X Y : V} {x y : Value} (hX : FV ρ lam X x) (hY : FV ρ lam Y y)
    (hs : s.run P w = ((Builtin.copy_ #[dt, xt] ty #[x, y]).run P w).andThen fun v w => .ok (.value v) w) (hH : RelH ρ H w) (hL : RelL A ρ lam L w) {v : V}
    (he : vcopy lim sz H X Y = some (v, H')) : OpSim P lim tg A ρ lam L H w s v L H' := by
  unfold vcopy at he
  split at he
  case h_2 => cases he
  rename_i k1 n k2 m hn hm
  obtain ⟨ad, n', cap1, rfl, hnn, hkk1, hadn⟩ := lenS_rel hn hY
  obtain ⟨bd, m', cap2, rfl, hmm, hkk2, hbdn⟩ := lenS_rel hm hX
  subst hnn hmm
  simp only [Int.toNat_natCast] at he
  split at he
  case h_2 => cases he
  rename_i cs hcell
  obtain ⟨ys, hfc, hys, hsc, hysl⟩ := cells_rel (P := P) hcell hY hH hn
  have h1 := hfc (min n' m') (Nat.min_le_left _ _)
  have hsize : (sizeOf e).run P w = .ok sz w := sizeV_run hsz
  split at he
  · rename_i h0
    cases he
    rw [h0] at h1
    refine OpSim.pure (x := .int .i64 0) ?_ (.vr (.int _ _)) hH hL
    rw [hs]
    cases bd with
    | none => simp [Builtin.copy_, run_underlying hud, lenOf_run, hsize, h0, h1, goInt]
    | some ad2 => simp [Builtin.copy_, run_underlying hud, lenOf_run, hsize, h0, h1, goInt, storeCells]
  · rename_i h0
    split at he
    case h_2 => cases he
    rename_i b off len sz'
    split at he
    case isFalse => cases he
    rename_i hse
    subst hse
    split at he
    case h_2 => cases he
    rename_i H2 hst
    cases he
    obtain ⟨r, o, c, cap, hρ, h2, h3, hx⟩ := hX.sl
    cases hx
    obtain ⟨w', hrun, q1, q2, q3⟩ := write_rel (P := P) (tg := tg) hH hL hst hρ (hys.take _) (hsc.take _)
    refine ⟨.int .i64 (min n' m' : Nat), ρ, lam, w', Or.inl ?_, .vr (.int _ _), q1, q2, q3.wide⟩
    rw [hs]
    simp [Builtin.copy_, run_underlying hud, lenOf_run, hsize, h1, goInt, hrun]

/-- so many zeros -/
theorem rowOf_rel {e : TypeId} {z : List V} (hz : zeroV P e = some z) (n : Nat) : ∃ zv : Value, (zeroValue e).run P w = .ok zv w ∧ VRs ρ (rowOf n z) (Builtin.zeroCells zv.cells n).toList ∧ Scals (rowOf n z) := by
  obtain ⟨i, zv, hi, hz', k1, k2⟩ := zeroV_rel (ρ := ρ) hz
  have hrow0 : ∀ m, VRs ρ (rowOf m z) (List.replicate m zv.cells.toList).flatten ∧ Scals (rowOf m z) := by
    intro m
    induction m with
    | zero => exact ⟨by simpa [rowOf] using VRs.nil, by simpa [rowOf] using Scals.nil⟩
    | succ m ih => exact ⟨by simpa [rowOf, List.replicate_succ] using k1.append ih.1, by simpa [rowOf, List.replicate_succ] using k2.append ih.2⟩
  obtain ⟨q1, q2⟩ := hrow0 n
  have hflat : ∀ (m : Nat) (l : List Value) (k : Nat), l.length = k → ∀ j, j < m * k → (List.replicate m l).flatten[j]? = l[j % k]? := by
    intro m
    induction m with
    | zero => intro l k _ j hj; simp at hj
    | succ m ih =>
      intro l k hl j hj
      rw [List.replicate_succ, List.flatten_cons]
      by_cases hlt : j < k
      · rw [List.getElem?_append_left (by omega), Nat.mod_eq_of_lt hlt]
      · rw [List.getElem?_append_right (by omega), hl, ih l k hl (j - k) (by rw [Nat.add_mul, Nat.one_mul] at hj; omega), Nat.mod_eq_sub_mod (a := j) (by omega)]
  have hC0 : (Builtin.zeroCells zv.cells n).toList = (List.replicate n zv.cells.toList).flatten := by
    apply List.ext_getElem?
    intro j
    by_cases hj : j < n * zv.cells.size
    · rw [hflat n zv.cells.toList zv.cells.size (by simp) j hj]
      have hsz0 : 0 < zv.cells.size := by rcases Nat.eq_zero_or_pos zv.cells.size with h | h; (rw [h] at hj; simp at hj); exact h
      have hlt : j % zv.cells.size < zv.cells.size := Nat.mod_lt _ hsz0
      simp only [Builtin.zeroCells, Array.toList_map, Array.toList_range, List.getElem?_map, List.getElem?_range hj, Option.map_some, Array.getElem?_toList]
      rw [Array.getElem?_eq_getElem hlt, getElem!_pos zv.cells (j % zv.cells.size) hlt]
    · rw [List.getElem?_eq_none (by simp [Builtin.zeroCells]; omega), List.getElem?_eq_none (by simp; omega)]
  rw [← hC0] at q1
  exact ⟨zv, by simp [zeroValue, typeInfo, hi, hz'], q1, q2⟩

/-- clear -/
theorem sim_clr {argTypes : Array TypeId} {ty t0 e : TypeId} {sz : Nat} {z : List V} {X : V} {x : Value} (hget : argTypes[0]? = some t0) (hu : P.underlying t0 = some (.slice e)) (hz : zeroV P e = some z) (hX : FV ρ lam X x)
    (hs : s = (do pure (.value (← Builtin.clear_ argTypes ty #[x])))) (hH : RelH ρ H w) (hL : RelL A ρ lam L w) (he : vclr lim sz z H X = some H') : OpSim P lim tg A ρ lam L H w s dv L H' := by
  have e0 : (#[x] : Array Value)[0]? = some x := rfl
  have nothing : ∀ ad n c, x = .slice ad n c → (ad = none ∨ n = 0) → s.run P w = .ok (.value (.tuple #[])) w := by
    intro ad n c hx hn
    rw [hs, hx]
    rcases hn with rfl | rfl
    · simp [Builtin.clear_, hget, run_underlying hu]
    · cases ad <;> simp [Builtin.clear_, hget, run_underlying hu]
  unfold vclr at he
  split at he
  · cases he
    exact OpSim.pure (nothing _ _ _ hX.snil (Or.inl rfl)) .undef hH hL
  · cases he
    obtain ⟨ad, n, c, h1, h2⟩ : ∃ ad n c, x = .slice ad n c ∧ n = 0 := by
      obtain ⟨ad, len, cap, h1, h2, h3, h4⟩ := lenS_rel (v := .sempty) (n := 0) (k := .i64) rfl hX
      exact ⟨ad, len, cap, h1, by omega⟩
    exact OpSim.pure (nothing _ _ _ h1 (Or.inr h2)) .undef hH hL
  · rename_i b off len sz'
    split at he
    case isFalse => cases he
    rename_i hc
    obtain ⟨hse, hzl⟩ := hc
    obtain ⟨r, oo, c, cap, hρ, h2, h3, hx⟩ := hX.sl
    split at he
    · rename_i h0
      cases he
      exact OpSim.pure (nothing _ _ _ hx (Or.inr h0)) .undef hH hL
    · rename_i h0
      obtain ⟨zv, hzr, q1, q2⟩ := rowOf_rel (P := P) (w := w) (ρ := ρ) hz len
      obtain ⟨w', hrun, g1, g2, g3⟩ := write_rel (P := P) (tg := tg) hH hL he hρ q1 q2
      refine ⟨ux, ρ, lam, w', Or.inl ?_, .undef, g1, g2, g3.wide⟩
      rw [hs, hx]
      simp [Builtin.clear_, hget, run_underlying hu, h0, hzr, hrun]
      rfl
  · cases he

end
end Go.Proofs.YtpdnbmnnkefedaaGreatDoor.Vm
