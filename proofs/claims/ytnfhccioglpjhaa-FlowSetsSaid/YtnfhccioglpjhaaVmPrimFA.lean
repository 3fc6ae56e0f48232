/- slices.Insert at lists of edges (three cells each), by hand: the ways with room and without. -/
import Derived.Test.YtnfhccioglpjhaaVmRules
import Derived.Test.YtnfhccioglpjhaaChecked
import Derived.Shelf.Spec.SlicesInsertGrow
import Derived.KernelRfl
namespace Go.Proofs.Ytnfhccioglpjhaa.Vm
open Go Go.Shelf Go.RowKit Go.Lib
set_option maxRecDepth 100000
set_option linter.unusedSimpArgs false
set_option linter.unusedVariables false
section
variable {P : Program}
theorem run_copy_k (w : World) (dT sT ty elem : TypeId) (b o dLen dCap : Nat) (a : Addr) (sLen sCap k : Nat) (cs : List Value)
    (hu : P.underlying dT = some (.slice elem)) (hs : (P.info? elem).map (·.size) = some k) (hn : cs.length = Nat.min sLen dLen * k)
    (hsrc : ∀ j v, cs[j]? = some v → w.cell? (a.add j) = some v) (hc : ∀ j, j < cs.length → (w.cell? ⟨b, o + j, none⟩).isSome = true) (hf : ∀ j, j < cs.length → w.frozen? ⟨b, o + j, none⟩ = false) (h1 : ∀ v ∈ cs, v.oneCell' = true) :
    (Builtin.copy_ #[dT, sT] ty #[.slice (some ⟨b, o, none⟩) dLen dCap, .slice (some a) sLen sCap]).run P w = .ok (goInt (Nat.min sLen dLen)) (w.setCells b o cs) := by
  have hl := run_loadCells_list (P := P) w a cs hsrc
  have hst := run_storeCells_cells (P := P) b o cs 0 w (by simpa using hc) (by simpa using hf) h1
  cases hq : P.info? elem with
  | none => simp [hq] at hs
  | some i =>
    have iLt : i.size = k := by simpa [hq] using hs
    rw [hn] at hl
    simp [Builtin.copy_, run_underlying hu, Builtin.lenOf, Builtin.firstCells, sizeOf, typeInfo, hq, iLt, hl, hst]
end
theorem t23 : Try.prog.underlying 23 = some (.slice 29) := by kernel_rfl
theorem sz29 : (Try.prog.info? 29).map (·.size) = some 3 := by kernel_rfl
theorem sizeV29 : sizeV Try.prog 29 = some 3 := by kernel_rfl
set_option maxHeartbeats 4000000 in
theorem ins_shift (b o1 n c i vb o2 m vc : Nat) (cs vs : List Value) (w : World) (iLt : i < n) (mPos : 0 < m) (rmC : n + m ≤ c) (nMax : n + m ≤ 9223372036854775807) (vNe : vb ≠ b)
    (lenC : cs.length = n * 3) (lenV : vs.length = m * 3)
    (cA : ∀ j v, cs[j]? = some v → w.cell? ⟨b, o1 + j, none⟩ = some v) (spA : ∀ j, j < (n + m) * 3 → (w.cell? ⟨b, o1 + j, none⟩).isSome = true) (fzA : ∀ j, j < (n + m) * 3 → w.frozen? ⟨b, o1 + j, none⟩ = false)
    (vA : ∀ j v, vs[j]? = some v → w.cell? ⟨vb, o2 + j, none⟩ = some v) (oneC : ∀ v ∈ cs, v.oneCell' = true) (oneV : ∀ v ∈ vs, v.oneCell' = true)
    (tA tB : TypeId) (kA kB : Nat) (shV : w.shape? vb = some (tA, kA)) (shB : w.shape? b = some (tB, kB)) (szB : kB ≠ 0) (frV : w.frozen? ⟨vb, o2, none⟩ = false) (frE : w.frozen? ⟨vb, kA, none⟩ = false) :
    Calls Try.prog 27 #[.slice (some ⟨b, o1, none⟩) n c, .int .i64 i, .slice (some ⟨vb, o2, none⟩) m vc] w fun e w' =>
      e = .returned (.slice (some ⟨b, o1, none⟩) (n + m) c) ∧ w' = (w.drew.setCells b (o1 + (i + m) * 3) (cs.drop (i * 3))).setCells b (o1 + i * 3) vs := by
  have mixed : Try.prog.follows Departure.mixedOrders = true := by kernel_rfl
  have mNz : ¬ ((m : Int) = 0) := by omega
  have iNe : ¬ ((i : Int) = (n : Int)) := by omega
  have ovl : ∀ lb cb, (callFunc 43 #[.slice (some ⟨vb, o2, none⟩) m vc, .slice (some ⟨b, o1 + (i + m) * 3, none⟩) lb cb]).run Try.prog w = .ok (.value (.bool false)) w := fun lb cb => by
    rw [run_callFunc_extern Try.func43 (by kernel_rfl) (by kernel_rfl) (by kernel_rfl) (e := Extern.SlicesOverlaps.overlaps #[23, 23] #[4]) (by kernel_rfl),
      Lib.run_overlaps_apart w 23 4 29 t23 3 (fun w => sizeV_run (sizeV29)) ⟨vb, o2, none⟩ ⟨b, o1 + (i + m) * 3, none⟩ m vc lb cb vNe tA tB kA kB shV shB szB frV frE]
    rfl
  have lenD : (cs.drop (i * 3)).length = (n - i) * 3 := by rw [List.length_drop, lenC]; omega
  have wIM : IntKind.i64.wrap ((i : Int) + (m : Int)) = (i : Int) + (m : Int) := by rw [IntKind.wrap_i64]; omega
  have pIM : (0 : Int) ≤ (i : Int) + (m : Int) := by omega
  have iLe : i ≤ n := by omega
  have tIM : ((i : Int) + (m : Int)).toNat = i + m := by omega
  have cIM : ¬ (c = i + m) := by omega
  have iNM : (i : Int) ≤ (n : Int) + (m : Int) := by omega
  have cI : ¬ (c = i) := by omega
  have min1 : Nat.min (n + m - i) (n + m - (i + m)) = n - i := by simp only [Nat.min_def]; split <;> omega
  have cpy1 : ∀ ty dc sc, (Builtin.copy_ #[23, 23] ty #[.slice (some ⟨b, o1 + (i + m) * 3, none⟩) (n + m - (i + m)) dc, .slice (some ⟨b, o1 + i * 3, none⟩) (n + m - i) sc]).run Try.prog w.drew = .ok (goInt ((n - i : Nat) : Int)) (w.drew.setCells b (o1 + (i + m) * 3) (cs.drop (i * 3))) := fun ty dc sc => by
    have := run_copy_k (P := Try.prog) w.drew 23 23 ty 29 b (o1 + (i + m) * 3) (n + m - (i + m)) dc ⟨b, o1 + i * 3, none⟩ (n + m - i) sc 3 (cs.drop (i * 3)) t23 sz29 (by rw [lenD, min1])
      (fun j v jLt => by rw [Addr.add_lit, Nat.add_assoc]; exact cA (i * 3 + j) v (by rwa [List.getElem?_drop] at jLt))
      (fun j jLt => by rw [Nat.add_assoc]; exact spA _ (by omega)) (fun j jLt => by rw [Nat.add_assoc]; exact fzA _ (by omega)) (fun v vIn => oneC v (List.mem_of_mem_drop vIn))
    rw [min1] at this
    exact this
  obtain ⟨W1, eW⟩ : ∃ W1, W1 = w.drew.setCells b (o1 + (i + m) * 3) (cs.drop (i * 3)) := ⟨_, rfl⟩
  have spW : ∀ k, k < (n + m) * 3 → (W1.cell? ⟨b, o1 + k, none⟩).isSome = true := fun k hk => by
    rw [eW]
    exact isSome_setCells b _ _ _ (fun j jLt => by rw [Nat.add_assoc]; exact spA _ (by omega)) _ (spA k hk)
  have min2 : Nat.min m (n + m - i) = m := by simp only [Nat.min_def]; split <;> omega
  have cpy2 : ∀ (W : World), (∀ x, W.cell? x = W1.cell? x) → (∀ x, W.frozen? x = W1.frozen? x) → ∀ ty dc, (Builtin.copy_ #[23, 23] ty #[.slice (some ⟨b, o1 + i * 3, none⟩) (n + m - i) dc, .slice (some ⟨vb, o2, none⟩) m vc]).run Try.prog W = .ok (goInt m) (W.setCells b (o1 + i * 3) vs) := fun W sC sF ty dc => by
    have := run_copy_k (P := Try.prog) W 23 23 ty 29 b (o1 + i * 3) (n + m - i) dc ⟨vb, o2, none⟩ m vc 3 vs t23 sz29 (by rw [lenV, min2])
      (fun j v jLt => by
        rw [Addr.add_lit, sC, eW, World.cell?_setCells_out b _ _ _ _ (fun h _ => absurd h vNe)]
        exact vA j v jLt)
      (fun j jLt => by rw [sC, Nat.add_assoc]; exact spW _ (by omega)) (fun j jLt => by rw [sF, eW, World.frozen?_setCells, Nat.add_assoc]; exact fzA _ (by omega)) oneV
    rw [min2] at this
    exact this
  rw [← eW] at cpy1
  go_enter Try.func27, Try.ntmps27
  go_wp2_with (simp only [ovl])
  go_region_law_o (refine step_copy_runI rfl _ _ 23 23 rfl _ _ (by simp [Act.eval, Act.put]) (by simp [Act.eval, Act.put]) (cpy1 _ _ _) ?_)
  go_wp2_with (at_builtin; refine wpList_copy_runI _ rfl _ _ 23 23 rfl _ _ rfl rfl (cpy2 _ (fun _ => rfl) (fun _ => rfl) _ _) ?_)
  go_ret
  first | exact ⟨rfl, rfl⟩ | exact ⟨rfl, by rw [eW]⟩

theorem info29 : ∃ i0, Try.prog.info? 29 = some i0 ∧ i0.zero = some (.agg #[.int .i64 0, .int .i64 0, .int .i64 0]) ∧ i0.size = 3 ∧ i0.bytes = 24 := info_parts (by kernel_rfl)
def z29 : Array Value := (Value.agg #[.int .i64 0, .int .i64 0, .int .i64 0]).cells
set_option maxHeartbeats 4000000 in
theorem ins_grow (b o1 n c i vb o2 m vc : Nat) (cs vs : List Value) (w : World) (iLt : i < n) (mPos : 0 < m) (nLe : n ≤ c) (rmC : c < n + m) (small : (n + m) * 24 ≤ 140737488355328)
    (lenC : cs.length = n * 3) (lenV : vs.length = m * 3)
    (cA : ∀ j v, cs[j]? = some v → w.cell? ⟨b, o1 + j, none⟩ = some v)
    (vA : ∀ j v, vs[j]? = some v → w.cell? ⟨vb, o2 + j, none⟩ = some v) (oneC : ∀ v ∈ cs, v.oneCell' = true) (oneV : ∀ v ∈ vs, v.oneCell' = true) :
    Calls Try.prog 27 #[.slice (some ⟨b, o1, none⟩) n c, .int .i64 i, .slice (some ⟨vb, o2, none⟩) m vc] w fun e w' =>
      e = .returned (.slice (some ⟨w.heap.size, 0, none⟩) (n + m) (grownCap w (n + m) c 29)) ∧
      w' = (((w.alloc (.cells ((cs.take (i * 3)).toArray ++ Builtin.zeroCells z29 (n + m - i) ++ Builtin.zeroCells z29 (grownCap w (n + m) c 29 - (n + m))) 29)).drew.setCells w.heap.size (i * 3) vs).drew).setCells w.heap.size ((i + m) * 3) (cs.drop (i * 3)) := by
  have mixed : Try.prog.follows Departure.mixedOrders = true := by kernel_rfl
  obtain ⟨i0, inf, infZ, infS, infB⟩ := info29
  have mNz : ¬ ((m : Int) = 0) := by omega
  have iNe : ¬ ((i : Int) = (n : Int)) := by omega
  have cLt : (c : Int) < (n : Int) + (m : Int) := by omega
  have bOld : b < w.heap.size := block_lt_of_cell (cA 0 _ (List.getElem?_eq_getElem (by omega)))
  have vOld : vb < w.heap.size := block_lt_of_cell (vA 0 _ (List.getElem?_eq_getElem (by omega)))
  have kCast : (n : Int) + (m : Int) - (i : Int) = ((n + m - i : Nat) : Int) := by omega
  have ikSum : i + (n + m - i) = n + m := by omega
  have oldC : (Builtin.firstCells i0.size i (.slice (some ⟨b, o1, none⟩) i c)).run Try.prog w.drew = .ok (cs.take (i * 3)).toArray w.drew := by
    rw [infS]
    exact run_firstCells_some w.drew 3 i ⟨b, o1, none⟩ i c (cs.take (i * 3)) (by rw [List.length_take]; omega) (fun j v jLt => by
      rw [Addr.add_lit]
      rw [List.getElem?_take] at jLt
      split at jLt
      · exact cA j v jLt
      · cases jLt)
  have appZ : ∀ ty, (Builtin.append_ #[23, 3] ty #[.slice (some ⟨b, o1, none⟩) i c, .int .i64 ((n : Int) + (m : Int) - (i : Int))]).run Try.prog w =
      .ok (.slice (some ⟨w.heap.size, 0, none⟩) (n + m) (grownCap w (n + m) c 29)) (w.drew.alloc (.cells ((cs.take (i * 3)).toArray ++ Builtin.zeroCells z29 (n + m - i) ++ Builtin.zeroCells z29 (grownCap w (n + m) c 29 - (n + m))) 29)) := fun ty => by
    have h := Lib.run_append_grow_zeros w 23 3 ty 29 i0 _ .i64 .i64 t23 (by kernel_rfl) inf infZ (some ⟨b, o1, none⟩) i c (cs.take (i * 3)) oldC (n + m - i) (by omega) (by omega) (by omega) (by omega) (by rw [infB]; omega) (by rw [infB, ikSum]; exact growslice_fits rmC small)
    rw [ikSum] at h
    rw [kCast]
    exact h
  obtain ⟨G, eG⟩ : ∃ G, G = grownCap w (n + m) c 29 := ⟨_, rfl⟩
  obtain ⟨ROW, eRow⟩ : ∃ ROW : Array Value, ROW = (cs.take (i * 3)).toArray ++ Builtin.zeroCells z29 (n + m - i) ++ Builtin.zeroCells z29 (G - (n + m)) := ⟨_, rfl⟩
  rw [← eG] at appZ ⊢
  rw [← eRow] at appZ ⊢
  have lenR : (n + m) * 3 ≤ ROW.size := by
    rw [eRow]
    simp [Builtin.zeroCells, z29, Value.cells]
    omega
  obtain ⟨W1, eW⟩ : ∃ W1, W1 = w.drew.alloc (.cells ROW 29) := ⟨_, rfl⟩
  rw [← eW] at appZ
  have isN : ∀ j, j < (n + m) * 3 → (W1.cell? ⟨w.heap.size, j, none⟩).isSome = true := fun j jLt => by
    rw [eW, World.cell?_alloc_at (w := w.drew) ROW _ w.heap.size j rfl, Array.getElem?_eq_getElem (by omega)]; rfl
  have frN : ∀ j, W1.frozen? ⟨w.heap.size, j, none⟩ = false := fun j => by rw [eW]; exact World.frozen?_alloc_at (w := w.drew) ROW _ w.heap.size j rfl
  have keepB : ∀ j v, w.cell? ⟨b, j, none⟩ = some v → W1.cell? ⟨b, j, none⟩ = some v := fun j v h => by rw [eW, World.cell?_alloc_past (w := w.drew) _ b j bOld]; exact h
  have keepV : ∀ j v, w.cell? ⟨vb, j, none⟩ = some v → W1.cell? ⟨vb, j, none⟩ = some v := fun j v h => by rw [eW, World.cell?_alloc_past (w := w.drew) _ vb j vOld]; exact h
  have minA : Nat.min m (n + m - i) = m := by simp only [Nat.min_def]; split <;> omega
  have cpyA : ∀ (W : World), (∀ x, W.cell? x = W1.cell? x) → (∀ x, W.frozen? x = W1.frozen? x) → ∀ ty dc, (Builtin.copy_ #[23, 23] ty #[.slice (some ⟨w.heap.size, i * 3, none⟩) (n + m - i) dc, .slice (some ⟨vb, o2, none⟩) m vc]).run Try.prog W = .ok (goInt m) (W.setCells w.heap.size (i * 3) vs) := fun W sC sF ty dc => by
    have := run_copy_k (P := Try.prog) W 23 23 ty 29 w.heap.size (i * 3) (n + m - i) dc ⟨vb, o2, none⟩ m vc 3 vs t23 sz29 (by rw [lenV, minA])
      (fun j v jLt => by rw [Addr.add_lit, sC]; exact keepV _ v (vA j v jLt))
      (fun j jLt => by rw [sC]; exact isN _ (by omega)) (fun j jLt => by rw [sF]; exact frN _) oneV
    rw [minA] at this
    exact this
  have gN : n + m ≤ G := by rw [eG]; exact grownCap_ge w _ _ _
  have gMax : G ≤ 9223372036854775807 := by
    have := grownCap_le_maxLen w (n + m) c 29 (by unfold maxLen; omega)
    rw [← eG] at this
    unfold maxLen at this
    omega
  have gI : ¬ (G = i) := by omega
  have gIM : ¬ (G = i + m) := by omega
  have cNi : ¬ (c = i) := by omega
  have bNew : b ≠ w.heap.size := by omega
  have lenD : (cs.drop (i * 3)).length = (n - i) * 3 := by rw [List.length_drop, lenC]; omega
  have minB : Nat.min (n - i) (n + m - (i + m)) = n - i := by simp only [Nat.min_def]; split <;> omega
  have cpyB : ∀ (W : World), (∀ x, W.cell? x = (W1.setCells w.heap.size (i * 3) vs).cell? x) → (∀ x, W.frozen? x = (W1.setCells w.heap.size (i * 3) vs).frozen? x) → ∀ ty dc sc, (Builtin.copy_ #[23, 23] ty #[.slice (some ⟨w.heap.size, (i + m) * 3, none⟩) (n + m - (i + m)) dc, .slice (some ⟨b, o1 + i * 3, none⟩) (n - i) sc]).run Try.prog W = .ok (goInt ((n - i : Nat) : Int)) (W.setCells w.heap.size ((i + m) * 3) (cs.drop (i * 3))) := fun W sC sF ty dc sc => by
    have := run_copy_k (P := Try.prog) W 23 23 ty 29 w.heap.size ((i + m) * 3) (n + m - (i + m)) dc ⟨b, o1 + i * 3, none⟩ (n - i) sc 3 (cs.drop (i * 3)) t23 sz29 (by rw [lenD, minB])
      (fun j v jLt => by
        rw [Addr.add_lit, sC, World.cell?_setCells_out _ _ _ _ _ (fun h _ => absurd h bNew), Nat.add_assoc]
        exact keepB _ v (cA (i * 3 + j) v (by rwa [List.getElem?_drop] at jLt)))
      (fun j jLt => by rw [sC]; exact isSome_setCells _ _ _ _ (fun t ht => isN _ (by omega)) _ (isN _ (by omega)))
      (fun j jLt => by rw [sF, World.frozen?_setCells]; exact frN _) (fun v vIn => oneC v (List.mem_of_mem_drop vIn))
    rw [minB] at this
    exact this
  subst eW
  have sameC1 : ∀ x, ((w.alloc (.cells ROW 29)).drew).cell? x = (w.drew.alloc (.cells ROW 29)).cell? x := fun x => rfl
  have sameF1 : ∀ x, ((w.alloc (.cells ROW 29)).drew).frozen? x = (w.drew.alloc (.cells ROW 29)).frozen? x := fun x => rfl
  have sameC2 : ∀ x, (((w.alloc (.cells ROW 29)).drew.setCells w.heap.size (i * 3) vs).drew).cell? x = ((w.drew.alloc (.cells ROW 29)).setCells w.heap.size (i * 3) vs).cell? x := fun x => rfl
  have sameF2 : ∀ x, (((w.alloc (.cells ROW 29)).drew.setCells w.heap.size (i * 3) vs).drew).frozen? x = ((w.drew.alloc (.cells ROW 29)).setCells w.heap.size (i * 3) vs).frozen? x := fun x => rfl
  have wIM : IntKind.i64.wrap ((i : Int) + (m : Int)) = (i : Int) + (m : Int) := by rw [IntKind.wrap_i64]; omega
  have pIM : (0 : Int) ≤ (i : Int) + (m : Int) := by omega
  have iLe : i ≤ n := by omega
  have tIM : ((i : Int) + (m : Int)).toNat = i + m := by omega
  have iNM : (i : Int) ≤ (n : Int) := by omega
  clear kCast ikSum oldC eRow eG lenR
  go_enter Try.func27, Try.ntmps27
  go_wp2_with (first
    | (at_builtin; refine Lib.wpList_append_run _ rfl _ _ _ _ rfl _ _ rfl rfl _ _ (appZ _) ?_)
    | (at_builtin; refine wpList_copy_runI _ rfl _ _ 23 23 rfl _ _ rfl rfl (cpyA _ sameC1 sameF1 _ _) ?_)
    | (at_builtin; refine wpList_copy_runI _ rfl _ _ 23 23 rfl _ _ rfl rfl (cpyB _ (fun _ => rfl) (fun _ => rfl) _ _ _) ?_))
  go_region_law_o (refine step_copy_runI rfl _ _ 23 23 rfl (.slice (some ⟨w.heap.size, (i + m) * 3, none⟩) (n + m - (i + m)) (G - (i + m))) (.slice (some ⟨b, o1 + i * 3, none⟩) (n - i) (c - i)) (by simp [Act.eval, Act.put]) (by simp [Act.eval, Act.put]) (cpyB _ sameC2 sameF2 3 (G - (i + m)) (c - i)) ?_)
  go_wp2
  go_ret
  exact ⟨rfl, rfl⟩
/-- at the end: what append gives -/
theorem ins_end (b o1 n c vb o2 m vc : Nat) (w w' : World) (x : Value) (mPos : 0 < m) (nMax : n + m ≤ 9223372036854775807) (nLe : n ≤ c)
    (runA : (Builtin.append_ #[23, 23] 23 #[.slice (some ⟨b, o1, none⟩) n c, .slice (some ⟨vb, o2, none⟩) m vc]).run Try.prog w = .ok x w') :
    Calls Try.prog 27 #[.slice (some ⟨b, o1, none⟩) n c, .int .i64 n, .slice (some ⟨vb, o2, none⟩) m vc] w fun e w2 => e = .returned x ∧ w2 = w' := by
  have mixed : Try.prog.follows Departure.mixedOrders = true := by kernel_rfl
  have mNz : ¬ ((m : Int) = 0) := by omega
  go_enter Try.func27, Try.ntmps27
  go_wp2_with (at_builtin; refine Lib.wpList_append_run _ rfl _ _ _ _ rfl _ _ rfl rfl _ _ runA ?_)
  all_goals (go_ret; exact ⟨rfl, rfl⟩)
theorem ins_end_nil (vb o2 m vc : Nat) (w w' : World) (x : Value) (mPos : 0 < m)
    (runA : (Builtin.append_ #[23, 23] 23 #[.slice none 0 0, .slice (some ⟨vb, o2, none⟩) m vc]).run Try.prog w = .ok x w') :
    Calls Try.prog 27 #[.slice none 0 0, .int .i64 0, .slice (some ⟨vb, o2, none⟩) m vc] w fun e w2 => e = .returned x ∧ w2 = w' := by
  have mixed : Try.prog.follows Departure.mixedOrders = true := by kernel_rfl
  have mNz : ¬ ((m : Int) = 0) := by omega
  go_enter Try.func27, Try.ntmps27
  go_wp2_with (at_builtin; refine Lib.wpList_append_run _ rfl _ _ _ _ rfl _ _ rfl rfl _ _ runA ?_)
  all_goals (go_ret; exact ⟨rfl, rfl⟩)
end Go.Proofs.Ytnfhccioglpjhaa.Vm
