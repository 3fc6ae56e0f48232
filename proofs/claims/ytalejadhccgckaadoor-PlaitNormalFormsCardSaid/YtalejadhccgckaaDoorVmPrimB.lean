/- plait.Parse at the one text that the laws of layer 6 ask of it at the end, as a given contract of the machine. -/
import Derived.Test.YtalejadhccgckaaDoorVmTab0
import Derived.Test.YtalejadhccgckaaDoorVmMove
import Derived.Tactics
import Derived.Tactics2
import Derived.Defers
import Derived.Recover
import Derived.Laws.Pointers
namespace Go.Proofs.YtalejadhccgckaaDoor.Vm
open Go Go.RowKit
set_option linter.unusedVariables false
def sKn : ByteArray := ⟨#[33, 40, 97, 98, 41, 50]⟩
def wKn : ByteArray := ⟨#[66, 65, 66, 65]⟩
def qKn : FuncId → Option PrimF := fun f => if f = 62 then some (flatP (fun _ => true) gRepeat) else if f = 86 then some (flatP (fun _ => true) gMap) else none
def hKn : Hp := [.row [.str sKn, .int .i64 0, .int .i64 0] true]
def atKn : Option Blk → Bool
  | some (.row [.str _, .int .i64 a, .int .i64 b] true) => decide (a = 6) && decide (b = 0)
  | _ => false
def okKn : Option (V × Hp) → Bool
  | some (.str s, H) => (s.data.toList == [66, 65, 66, 65]) && (atKn H[0]? && decide (H.length = 2))
  | _ => false
set_option maxRecDepth 100000 in
theorem run_kn : okKn (evFn (knT T0.tbl qKn) 60 0 75 [.ptr 0 0] hKn) = true := by kernel_rfl
/-- the parser's items, at that text -/
theorem items_kn {ρ : Loc} {H : Hp} {W0 W : World} {T : TypeId} (hH : RelH ρ H W0) (hG : GRel ρ) (hc : chkU8 H = true) (hf : FreeR ρ H.length (H.length + 2))
    (hk : ∀ r, r < W0.heap.size → W.heap[r]? = W0.heap[r]?) (hg : W.heap[W0.heap.size]? = some (.cells #[.string sKn, .int .i64 0, .int .i64 0] T (0, 0))) :
    Calls Tryd.prog 75 #[.pointer (some ⟨W0.heap.size, 0, none⟩)] W fun e w' => e = .returned (.string wKn) ∧ w'.cell? ⟨W0.heap.size, 1, none⟩ = some (.int .i64 6) ∧
      w'.os = W.os ∧ w'.tape = W.tape ∧ w'.output = W.output ∧ W.heap.size ≤ w'.heap.size ∧ ∀ k, k < W.heap.size → k ≠ W0.heap.size → w'.heap[k]? = W.heap[k]? := by
  have hsz : W0.heap.size < W.heap.size := (Array.getElem?_eq_some_iff.1 hg).1
  have hrow : RowAt ρ [.str sKn, .int .i64 0, .int .i64 0] #[.string sKn, .int .i64 0, .int .i64 0] 0 := by
    intro i hi
    match i, hi with
    | 0, _ => exact ⟨.str _, rfl⟩
    | 1, _ => exact ⟨.int _ _, rfl⟩
    | 2, _ => exact ⟨.int _ _, rfl⟩
  have h1 := hH.push (hf _ (Nat.le_refl _) (by omega)) hsz hk hg (c := 3) (by simp) (by simp) hrow FzOk.zero
  have hle := Loc.add_le (x := (W0.heap.size, 0, 3)) (hf _ (Nat.le_refl _) (by omega))
  have hat : (ρ.add H.length (W0.heap.size, 0, 3)) H.length = some (W0.heap.size, 0, 3) := by simp [Loc.add]
  have hrun := run_kn
  cases hr : evFn (knT T0.tbl qKn) 60 0 75 [.ptr 0 0] hKn with
  | none => rw [hr] at hrun; cases hrun
  | some q =>
  obtain ⟨v, H1⟩ := q
  rw [hr] at hrun
  cases v <;> simp only [okKn] at hrun <;> try (cases hrun; done)
  rename_i s
  simp only [Bool.and_eq_true, beq_iff_eq] at hrun
  have hs : s = wKn := by
    obtain ⟨⟨d⟩⟩ := s
    simp only at hrun
    rw [hrun.1]; rfl
  subst hs
  have hsh : ShT H (knT T0.tbl qKn) T0.tbl := by
    refine ShT.kn fun f g0 hq vf hvf => ?_
    have hcG : ∀ X, chkU8 (shH H X) = true := by
      intro X
      simp only [chkU8, Bool.and_eq_true] at hc ⊢
      have key : ∀ b t, rowIs H b t = true → rowIs (shH H X) b t = true := by
        intro b t h
        unfold rowIs at h ⊢
        split at h
        case h_2 => cases h
        rename_i cs own hb
        have : (shH H X)[b]? = some (.row cs own) := by
          unfold shH
          rw [List.getElem?_append_left (List.getElem?_eq_some_iff.1 hb).1]; exact hb
        rw [this]; exact h
      exact ⟨key _ _ hc.1, key _ _ hc.2⟩
    unfold qKn at hq
    split at hq
    · rename_i e; subst e; cases hq
      rw [T0.tbl_at62] at hvf; cases hvf
      exact ⟨_, rfl, primSh_flat fun _ => rfl⟩
    · split at hq
      · rename_i e; subst e; cases hq
        rw [T0.tbl_at86] at hvf; cases hvf
        exact ⟨_, rfl, primSh_flat hcG⟩
      · cases hq
  have h2 := evFn_sh T0.tbl hsh 60 0 H.length 75 [.ptr 0 0] hKn _ _ (by omega) hr
  have e1 : shs H.length [V.ptr 0 0] = [.ptr H.length 0] := by simp [shs, sh]
  have e2 : shH H hKn = H ++ [.row [.str sKn, .int .i64 0, .int .i64 0] true] := by simp [shH, hKn, shB, shs, sh]
  rw [e1, e2] at h2
  have hlen : H1.length = 2 := by have := hrun.2.2; simpa using this
  refine ((((evFn_ok (by kernel_rfl) T0.tblOk 60 H.length 75 _ _ _ _ h2).1 (by decide)).2 _ W #[.pointer (some ⟨W0.heap.size, 0, none⟩)] h1 (hG.mono hle) ?_ ?_)).mono ?_
  · exact .cons (by simpa using VR.ptr (off := 0) hat) .nil
  · intro b hb hb2
    unfold Loc.add
    rw [if_neg (by simp at hb; omega)]
    refine hf b (by simp at hb; omega) ?_
    simp [shH, hlen] at hb2; omega
  rintro e w' ⟨x, ρ', rfl, hvr, g, hR⟩
  cases hvr
  have hρ' : ρ' H.length = some (W0.heap.size, 0, 3) := by rw [g.extR _ (Or.inl (by simp))]; exact hat
  have hrow2 : ∃ t b a, (shH H H1)[H.length]? = some (.row [t, .int .i64 6, .int .i64 b] a) := by
    have h3 := hrun.2.1
    have e3 : (shH H H1)[H.length]? = (H1[0]?).map (shB H.length) := by
      have := shH_get (G := H) (H := H1) (b := 0)
      rw [Nat.zero_add] at this; exact this
    rw [e3]
    unfold atKn at h3
    split at h3
    · rename_i t a b hq
      simp only [Bool.and_eq_true, decide_eq_true_eq] at h3
      obtain ⟨rfl, rfl⟩ := h3
      rw [hq]
      exact ⟨.str t, 0, true, by simp [shB, shs, sh]⟩
    · cases h3
  obtain ⟨t, b, a, hrow2⟩ := hrow2
  obtain ⟨C, el, fz, c1, c2, c3, c4, c5⟩ := hR.row _ _ _ _ _ _ hρ' hrow2
  have c6 := (c5 1 (by simp)).1
  have hlt : 1 < C.size := by simp at c3; omega
  have e5 : C[1]? = some (C.getD 1 ux) := by rw [Array.getD_eq_getD_getElem?, Array.getElem?_eq_getElem hlt]; rfl
  simp only [List.getD_cons_succ, List.getD_cons_zero, Nat.zero_add] at c6
  generalize hy : C.getD 1 ux = y at c6 e5
  cases c6
  refine ⟨rfl, by simp [World.cell?, c1, e5], g.os, g.tape, g.output, g.size, fun k hk1 hk2 => g.keep k hk1 ?_ (fun _ _ => by simp)⟩
  rintro ⟨b', o', c', hb1, ⟨X, hX, hox⟩, hb2⟩
  have : b' = H.length := by
    have := (List.getElem?_eq_some_iff.1 hX).1
    simp at this; omega
  subst this
  rw [hat] at hb2; cases hb2
  exact hk2 rfl
/-- the deferred function, where nothing is to be recovered -/
theorem catch_idle (p q : Addr) (w : World) : CallsD Tryd.prog 74 #[.pointer (some p), .pointer (some q)] .returning w fun e u' w' => e = .returned (.tuple #[]) ∧ u' = .returning ∧ w' = w := by
  refine callsD_of_wpS Tryd.func74 rfl fun c₀ cs hu => ?_
  apply wpS_seq
  apply wpS_region
  simp [wpOpsS, go_sem, recoverD, hu, Tryd.ntmps74, Exit.thenS]
  refine wpS_cond (t := false) (by simp [Act.eval, Array.replicate]) ?_
  simp only [Bool.false_eq_true, if_false]
  refine wpS_of_wp (wp_skip ?_)
  cases c₀
  simp_all [bodyPostS, results, Tryd.results74]
theorem items_kn2 {ρ : Loc} {H : Hp} {w : World} (hH : RelH ρ H w) (hG : GRel ρ) (hc : chkU8 H = true) (hf : FreeR ρ H.length (H.length + 2)) :
    Calls Tryd.prog 75 #[.pointer (some ⟨w.heap.size + 1 + 1, 0, none⟩)] (((w.alloc (.cells #[Value.string ⟨#[]⟩] 9)).alloc (.cells #[Value.int .i64 0] 24)).alloc (.cells #[Value.string sKn, .int .i64 0, .int .i64 0] 76)) fun e w' =>
      e = .returned (.string wKn) ∧ w'.cell? ⟨w.heap.size + 1 + 1, 1, none⟩ = some (.int .i64 6) ∧ w'.heap[w.heap.size]? = some (.cells #[Value.string ⟨#[]⟩] 9 (0, 0)) ∧ w'.heap[w.heap.size + 1]? = some (.cells #[Value.int .i64 0] 24 (0, 0)) ∧ Below w.heap.size w w' := by
  have hs : ((w.alloc (.cells #[Value.string ⟨#[]⟩] 9)).alloc (.cells #[Value.int .i64 0] 24)).heap.size = w.heap.size + 1 + 1 := by simp
  have hit := items_kn (W0 := (w.alloc (.cells #[Value.string ⟨#[]⟩] 9)).alloc (.cells #[Value.int .i64 0] 24)) (W := ((w.alloc (.cells #[Value.string ⟨#[]⟩] 9)).alloc (.cells #[Value.int .i64 0] 24)).alloc (.cells #[Value.string sKn, .int .i64 0, .int .i64 0] 76)) (T := 76)
    (hH.keep (by simp; omega) (fun r hr => by rw [heap_alloc_old _ _ (by simp; omega), heap_alloc_old _ _ hr])) hG hc hf (fun r hr => heap_alloc_old _ _ hr) (heap_alloc_new _ _)
  rw [hs] at hit
  refine hit.mono ?_
  rintro e w' ⟨he, i1, i2, i3, i4, i5, i6⟩
  have a0 : (w.alloc (.cells #[Value.string ⟨#[]⟩] 9)).heap.size = w.heap.size + 1 := by simp
  refine ⟨he, i1, ?_, ?_, i2, i3, i4, ?_, fun k hk => ?_⟩
  · rw [i6 _ (by simp; omega) (by omega), heap_alloc_old _ _ (by rw [hs]; omega), heap_alloc_old _ _ (by rw [a0]; omega)]
    exact heap_alloc_new _ _
  · rw [i6 _ (by simp) (by omega), heap_alloc_old _ _ (by rw [hs]; omega)]
    have := heap_alloc_new (w.alloc (.cells #[Value.string ⟨#[]⟩] 9)) (.cells #[Value.int .i64 0] 24)
    rw [a0] at this; exact this
  · refine Nat.le_trans ?_ i5
    simp; omega
  · rw [i6 _ (by simp; omega) (by omega), heap_alloc_old _ _ (by rw [hs]; omega), heap_alloc_old _ _ (by rw [a0]; omega), heap_alloc_old _ _ hk]
theorem checked_kn (w : World) : Calls Tryd.prog 59 #[.string wKn] w fun e w' => e = .returned (.tuple #[.string wKn, .int .i64 0]) ∧ w' = w := by
  have hwz : wKn.size = 4 := rfl
  go_enter Tryd.func59, Tryd.ntmps59
  go_wp2
  go_ret2
  exact ⟨rfl, rfl⟩
set_option maxHeartbeats 1000000 in
set_option maxRecDepth 100000 in
theorem parse_kn {ρ : Loc} {H : Hp} {w : World} (hH : RelH ρ H w) (hG : GRel ρ) (hc : chkU8 H = true) (hf : FreeR ρ H.length (H.length + 2)) :
    Calls Tryd.prog 52 #[.string sKn] w fun e w' => e = .returned (.tuple #[.string wKn, .int .i64 0]) ∧ Below w.heap.size w w' := by
  have hmf : ∀ (fn : Fn) (first cap : Array Value) (w : World), (Instr.makeFunc fn first cap).run Tryd.prog w = .ok (.func fn first cap) w := fun _ _ _ _ => rfl
  have hsz : sKn.size = 6 := rfl
  have hwz : wKn.size = 4 := rfl
  have hit := items_kn2 hH hG hc hf
  clear hH hG hc hf
  go_enter_defers Tryd.func52, Tryd.ntmps52
  go_wp2_with (first | (go_at_call 59; go_must (refine (checked_kn _).mono ?_; rintro e w' ⟨rfl, rfl⟩)) | (go_at_call 75; go_must (refine hit.mono ?_; rintro e w' ⟨rfl, i1, i2, i3, i4⟩; have c0 : w'.cell? ⟨w.heap.size, 0, none⟩ = some (.string ⟨#[]⟩) := (by simp [World.cell?, i2]); have f0 : w'.frozen? ⟨w.heap.size, 0, none⟩ = false := (by simp [World.frozen?, i2]); have c1 : w'.cell? ⟨w.heap.size + 1, 0, none⟩ = some (.int .i64 0) := (by simp [World.cell?, i3]); have f1 : w'.frozen? ⟨w.heap.size + 1, 0, none⟩ = false := (by simp [World.frozen?, i3]))))
  refine leaves_cons (f := 74) (args := #[.pointer (some ⟨w.heap.size, 0, none⟩), .pointer (some ⟨w.heap.size + 1, 0, none⟩)]) (by simp) (by simp [go_sem]) ?_
  refine (catch_idle ⟨w.heap.size, 0, none⟩ ⟨w.heap.size + 1, 0, none⟩ _).mono ?_
  rintro e u' w'' ⟨rfl, rfl, rfl⟩
  have d0 : ((w'.setCell ⟨w.heap.size, 0, none⟩ (.string wKn)).setCell ⟨w.heap.size, 0, none⟩ (.string wKn)).cell? ⟨w.heap.size, 0, none⟩ = some (.string wKn) := World.cell?_setCell_same _ _ _ (World.cell?_setCell_same _ _ _ c0)
  have d1 : (((w'.setCell ⟨w.heap.size, 0, none⟩ (.string wKn)).setCell ⟨w.heap.size, 0, none⟩ (.string wKn)).setCell ⟨w.heap.size + 1, 0, none⟩ (.int .i64 0)).cell? ⟨w.heap.size + 1, 0, none⟩ = some (.int .i64 0) := by
    refine World.cell?_setCell_same _ _ _ (u := .int .i64 0) ?_
    rw [World.cell?_setCell_other _ _ _ _ (by simp), World.cell?_setCell_other _ _ _ _ (by simp)]; exact c1
  simp [Leaves, settle, results, Tryd.results52, go_sem, d0, d1]
  exact ((i4.setCell (p := ⟨w.heap.size, 0, none⟩) (Nat.le_refl _) _).setCell (p := ⟨w.heap.size, 0, none⟩) (Nat.le_refl _) _).setCell (p := ⟨w.heap.size + 1, 0, none⟩) (Nat.le_succ _) _
/-! the contract -/
def gParse : List V → Option V
  | [.str s] => if s.data.toList = sKn.data.toList then some (.tup [.str wKn, .int .i64 0]) else none
  | _ => none
theorem chk_len {H : Hp} (h : chkU8 H = true) : 2 ≤ H.length := by
  simp only [chkU8, Bool.and_eq_true] at h
  have h := h.2
  unfold rowIs at h
  split at h
  · rename_i cs own hb
    have := (List.getElem?_eq_some_iff.1 hb).1
    omega
  · cases h
/-- a contract with so many dead blocks -/
def flatD (n : Nat) (chk : Hp → Bool) (g : List V → Option V) : PrimF := fun args H => match flatP chk g args H with
  | some (v, _) => some (v, List.replicate n .dead)
  | none => none
theorem flatD_eq {n : Nat} {chk : Hp → Bool} {g : List V → Option V} {args : List V} {H : Hp} {v : V} {bs : List Blk} (h : flatD n chk g args H = some (v, bs)) : bs = List.replicate n .dead ∧ chk H = true ∧ args.all flatV = true ∧ g args = some v ∧ flatT v = true := by
  unfold flatD flatP at h
  split at h
  case h_2 => cases h
  rename_i v' x hq
  cases h
  split at hq
  case isFalse => cases hq
  rename_i hc
  simp only [Bool.and_eq_true] at hc
  split at hq
  case h_2 => cases hq
  rename_i v2 hv
  split at hq
  case isFalse => cases hq
  rename_i hfl
  cases hq
  exact ⟨rfl, hc.1, hc.2, hv, hfl⟩
theorem dead_get {H : Hp} {n b : Nat} {x : Blk} (h : (H ++ List.replicate n Blk.dead)[b]? = some x) : H[b]? = some x ∨ x = .dead := by
  by_cases hb : b < H.length
  · rw [List.getElem?_append_left hb] at h; exact Or.inl h
  · rw [List.getElem?_append_right (by omega)] at h
    have := List.mem_of_getElem? h
    exact Or.inr (List.eq_of_mem_replicate this)
theorem RelH.deads {ρ : Loc} {H : Hp} {w : World} (h : RelH ρ H w) (n : Nat) : RelH ρ (H ++ List.replicate n .dead) w := by
  refine ⟨h.dom, fun b r o c cs own h1 h2 => ?_, fun b1 b2 r o1 c1 o2 c2 cs1 cs2 own2 h1 h2 k1 k2 => ?_, h.mp.of (fun b x hx h2 => ?_) (fun _ _ _ _ => rfl) (fun _ _ h => h) fun _ _ _ _ _ _ _ _ _ => rfl⟩
  · rcases dead_get h2 with e | e
    · exact h.row b r o c cs own h1 e
    · cases e
  · rcases dead_get k1 with e1 | e1
    · rcases dead_get k2 with e2 | e2
      · exact h.inj b1 b2 r o1 c1 o2 c2 cs1 cs2 own2 h1 h2 e1 e2
      · cases e2
    · cases e1
  · rcases dead_get h2 with e | e
    · exact e
    · subst e; cases hx
theorem primOk_flatD {P : Program} {f : FuncId} {n : Nat} {chk : Hp → Bool} {g : List V → Option V} (hb : bodied P f = true)
    (h : ∀ (args : List V) (H : Hp) (v : V) (ρ : Loc) (w : World) (xs : Array Value), args.all flatV = true → g args = some v → chk H = true → RelH ρ H w → GRel ρ → VRs ρ args xs.toList → FreeR ρ H.length (H.length + n) → Calls P f xs w fun e w' => ∃ x, e = .returned x ∧ VR ρ v x ∧ RowKit.Below w.heap.size w w') : PrimOk P f (flatD n chk g) := by
  refine ⟨hb, fun lim args H v bs ρ w xs hg hH hG hx hf => ?_⟩
  obtain ⟨rfl, h1, h2, h3, h4⟩ := flatD_eq hg
  have hl : (H ++ List.replicate n Blk.dead).length = H.length + n := by simp
  rw [hl] at hf
  refine (h args H v ρ w xs h2 h3 h1 hH hG hx hf).mono ?_
  rintro e w' ⟨x, he, hvx, hbl⟩
  refine ⟨x, ρ, he, hvx, ⟨hbl.os, hbl.tape, hbl.output, hbl.size, by rw [hl]; omega, Nat.le_refl _, fun _ _ => rfl, fun _ _ => rfl, fun b r o c b1 b2 b3 => ?_, fun i _ h1 h2 => absurd h2 (by omega), fun r hr _ _ => hbl.block r hr, fun b hb1 ⟨X, hX, hox⟩ => ?_⟩, (hH.keep hbl.size hbl.block).deads n⟩
  · rw [hf b b1 (by rw [hl] at b2; exact b2)] at b3; cases b3
  · rw [List.getElem?_append_left hb1] at hX; exact ⟨X, hX, hox⟩
theorem primSh_flatD {G : Hp} {n : Nat} {chk : Hp → Bool} {g : List V → Option V} (hc : ∀ H, chk (shH G H) = true) : PrimSh G (flatD n (fun _ => true) g) (flatD n chk g) := by
  intro args H v bs h
  obtain ⟨rfl, h1, h2, h3, h4⟩ := flatD_eq h
  have : flatP (fun _ => true) g args H = some (v, []) := by simp [flatP, h2, h3, h4]
  have := primSh_flat (chk := chk) hc args H v [] this
  unfold flatD
  rw [this]
  try simp [shB]
def pParse : PrimF := flatD 2 chkU8 gParse
theorem pok_Parse : PrimOk Tryd.prog 52 pParse := by
  refine primOk_flatD (by kernel_rfl) fun args H v ρ w xs hfl hg hc hH hG hx hf => ?_
  unfold gParse at hg
  split at hg
  case h_2 => cases hg
  rename_i s
  split at hg
  case isFalse => cases hg
  rename_i hs
  cases hg
  have hs : s = sKn := by
    obtain ⟨⟨d⟩⟩ := s
    simp only at hs
    rw [hs]
  subst hs
  have e1 := hx.1
  have e2 := hx.2 0 (by simp)
  obtain ⟨xs⟩ := xs
  match xs, e1, e2 with
  | [a], _, e2 =>
    simp at e2
    cases e2
    exact (parse_kn hH hG hc hf).mono fun e w' hh => ⟨_, hh.1, .tup rfl (fun i hi => by
      match i, hi with
      | 0, _ => exact .str _
      | 1, _ => exact .int _ _), hh.2⟩
def vf52 : VFn := ⟨1, [], .prim pParse⟩
theorem pok52 : PrimOk Tryd.prog 52 pParse := pok_Parse
end Go.Proofs.YtalejadhccgckaaDoor.Vm
