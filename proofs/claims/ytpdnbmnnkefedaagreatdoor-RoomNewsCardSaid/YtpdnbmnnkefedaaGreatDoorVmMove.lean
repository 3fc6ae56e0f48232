/- The machine does not mind where its blocks lie: what it answers over the empty heap it answers behind any other. -/
import Derived.Test.YtpdnbmnnkefedaaGreatDoorVmWp
namespace Go.Proofs.YtpdnbmnnkefedaaGreatDoor.Vm
open Go
set_option linter.unusedVariables false
set_option linter.unusedSimpArgs false

mutual
def sh (d : Nat) : V → V
  | .ptr b o => .ptr (b + d) o
  | .sl b o n z => .sl (b + d) o n z
  | .func f fs cs => .func f (shs d fs) (shs d cs)
  | .iface t v => .iface t (sh d v)
  | .agg cs => .agg (shs d cs)
  | .tup vs => .tup (shs d vs)
  | .bool b => .bool b
  | .int k n => .int k n
  | .str s => .str s
  | .pnil => .pnil
  | .lp i o => .lp i o
  | .snil => .snil
  | .sempty => .sempty
  | .fnil => .fnil
  | .inil => .inil
  | .mp b => .mp (b + d)
  | .yl b => .yl (b + d)
  | .hid => .hid
  | .mnil => .mnil
  | .opq x => .opq x
  | .it b => .it (b + d)
  | .slc b o n z c => .slc (b + d) o n z c
  | .szero => .szero
def shs (d : Nat) : List V → List V
  | [] => []
  | v :: vs => sh d v :: shs d vs
end
def clo : V → Bool
  | .ptr _ _ | .sl _ _ _ _ | .iface _ _ | .mp _ | .slc _ _ _ _ _ | .yl _ | .it _ | .hid => false
  | .func _ fs cs => fs.isEmpty && cs.isEmpty
  | .agg cs => cs.isEmpty
  | .tup cs => cs.isEmpty
  | _ => true
def cloO : Opd → Bool
  | .t _ => true
  | .c v => clo v
def cloOO : Option Opd → Bool
  | some x => cloO x
  | none => true
def cloP : List (Nat × Nat × Opd) → Bool
  | [] => true
  | (_, _, x) :: rest => cloO x && cloP rest
def cloOs : List Opd → Bool
  | [] => true
  | x :: rest => cloO x && cloOs rest
def clos : List V → Bool
  | [] => true
  | x :: rest => clo x && clos rest
def cloX : XOp → Bool
  | .mget _ _ _ z => clo z
  | .ment _ _ z => clo z
  | .apz _ _ z => clos z
  | .ask _ => false
  | _ => true
def cloOp : VOp → Bool
  | .move x | .box _ x | .load _ x | .un _ x | .faddr _ x | .field _ _ x | .ext x _ | .conv _ x | .lenS x | .lenT x | .nilc x | .eqN _ x | .bytes x => cloO x
  | .pick x y z | .max3 x y z | .min3 x y z => cloO x && (cloO y && cloO z)
  | .new _ z => clos z
  | .clr _ z x => clos z && cloO x
  | .lenA _ => true
  | .build z ps | .bslice _ _ z ps => clos z && cloP ps
  | .mks _ _ z a x => clos z && (cloO a && cloO x)
  | .store _ a x | .bin _ a x | .eqB _ a x | .eqA _ _ a x | .iaddrA _ _ a x | .iaddrS _ a x | .idxA _ _ _ a x | .idxT a x | .append _ _ a x | .copy _ a x | .max2 a x | .min2 a x => cloO a && cloO x
  | .slA _ _ x lo hi | .slS _ x lo hi | .slT x lo hi => cloO x && (cloOO lo && cloOO hi)
  | .call _ xs => cloOs xs
  | .x k xs => cloX k && cloOs xs
  | .mkf _ fs cs => cloOs fs && cloOs cs
  | .callV x xs => cloO x && cloOs xs
  | .slS3 _ x lo hi mx => cloO x && (cloOO lo && (cloOO hi && cloO mx))
  | .stuck => true
def cloL : List VOper → Bool
  | [] => true
  | o :: rest => cloOp o.op && cloL rest
def cloC : VCode → Bool
  | .reg ops => cloL ops
  | .draw a b | .drawS a b => cloL a && cloL b
  | .seq a b => cloC a && cloC b
  | .cond c a b => cloO c && (cloC a && cloC b)
  | .block _ b | .loop b | .scope b => cloC b
  | .rangeF g _ _ _ => cloO g
  | .prim _ => false
  | _ => true

def shB (d : Nat) : Blk → Blk
  | .row cs own => .row (shs d cs) own
  | .dead => .dead
  | .map es => .map (es.map fun p => (sh d p.1, sh d p.2))
  | .loop f ps fr => .loop f ps (shs d fr)
  | .sit s p => .sit s p
def shF (d : Nat) (fr : Fr) : Fr := fun t => sh d (fr t)
def shL (d : Nat) (L : Lo) : Lo := L.map (shs d)
def shH (G : Hp) (H : Hp) : Hp := G ++ H.map (shB G.length)
def shN (G : Hp) : VNext → VNext
  | .val v L H => .val (sh G.length v) (shL G.length L) (shH G H)
  | .call f args => .call f (shs G.length args)

section
variable {d : Nat}
theorem shs_map : ∀ {l : List V}, shs d l = l.map (sh d)
  | [] => by simp [shs]
  | v :: l => by simp [shs, shs_map (l := l)]
theorem shs_len {l : List V} : (shs d l).length = l.length := by simp [shs_map]
theorem sh_dv : sh d dv = dv := by simp [sh, shs]
theorem shs_app {l m : List V} : shs d (l ++ m) = shs d l ++ shs d m := by simp [shs_map]
theorem shs_take {l : List V} {n : Nat} : shs d (l.take n) = (shs d l).take n := by simp [shs_map, List.map_take]
theorem shs_drop {l : List V} {n : Nat} : shs d (l.drop n) = (shs d l).drop n := by simp [shs_map, List.map_drop]
theorem shs_get {l : List V} {n : Nat} : (shs d l)[n]? = (l[n]?).map (sh d) := by simp [shs_map]
theorem shs_getD {l : List V} {n : Nat} : (shs d l).getD n dv = sh d (l.getD n dv) := by
  simp only [List.getD_eq_getElem?_getD, shs_get]
  cases l[n]? <;> simp [sh_dv]
theorem sh_clo {v : V} (h : clo v = true) : sh d v = v := by
  cases v <;> simp [clo] at h <;> simp [sh, h, shs]
theorem shs_clos : ∀ {l : List V}, clos l = true → shs d l = l
  | [], _ => by simp [shs]
  | v :: l, h => by
    simp only [clos, Bool.and_eq_true] at h
    simp only [shs, sh_clo h.1, shs_clos h.2]
theorem shs_rowOf {z : List V} {n : Nat} (h : clos z = true) : shs d (rowOf n z) = rowOf n z := by
  unfold rowOf
  induction n with
  | zero => simp [shs]
  | succ n ih => simp only [List.replicate_succ, List.flatten_cons, shs_app, ih, shs_clos h]
theorem shs_bytes {s : ByteArray} : shs d (vbytesL s) = vbytesL s := by
  simp only [vbytesL, shs_map, List.map_map]
  apply List.map_congr_left
  intro b _
  simp [sh]
theorem stor_sh {v : V} : stor (sh d v) = stor v := by cases v <;> simp [sh, stor]
theorem cellsV_sh {v : V} : cellsV (sh d v) = shs d (cellsV v) := by cases v <;> simp [sh, cellsV, shs]
theorem splice_sh {cs xs : List V} {off : Nat} : splice (shs d cs) off (shs d xs) = shs d (splice cs off xs) := by
  simp only [splice, shs_app, shs_take, shs_drop, shs_len]
theorem rd_sh {g : Option Nat} {cs : List V} {off : Nat} : rd g (shs d cs) off = (rd g cs off).map (sh d) := by
  unfold rd
  cases g with
  | none =>
    simp only [shs_len, shs_getD]
    split <;> rfl
  | some n => simp only [shs_len]; split <;> simp [sh, shs_take, shs_drop]
theorem allStor_sh : ∀ {l : List V}, allStor (shs d l) = allStor l
  | [] => by simp [shs]
  | v :: l => by simp only [shs, allStor, stor_sh, allStor_sh (l := l)]
theorem vint_sh {v : V} : vint (sh d v) = vint v := by cases v <;> simp [sh, vint]
theorem vfaddr_sh {o : Nat} {v : V} : vfaddr o (sh d v) = (vfaddr o v).map (sh d) := by cases v <;> simp [sh, vfaddr]
theorem viaddrA_sh {n z : Nat} {v i : V} : viaddrA n z (sh d v) (sh d i) = (viaddrA n z v i).map (sh d) := by
  simp only [viaddrA, vint_sh]
  split
  · split
    · exact vfaddr_sh
    · rfl
  · rfl
theorem viaddrS_sh {z : Nat} {v i : V} : viaddrS z (sh d v) (sh d i) = (viaddrS z v i).map (sh d) := by
  cases v with
  | sl b o n z' =>
    simp only [sh, viaddrS, vint_sh]
    cases vint i with
    | none => rfl
    | some m =>
      simp only
      split
      · split <;> simp [sh]
      · rfl
  | _ => simp [sh, viaddrS]
theorem vidxT_sh {v i : V} : vidxT (sh d v) (sh d i) = (vidxT v i).map (sh d) := by
  cases v <;> simp only [sh, vidxT, Option.map_none, vint_sh]
  cases vint i with
  | none => rfl
  | some n => simp only; split <;> simp [sh]
theorem vfield_sh {o : Nat} {g : Option Nat} {v : V} : vfield o g (sh d v) = (vfield o g v).map (sh d) := by
  cases v <;> simp [sh, vfield, rd_sh]
theorem vidxA_sh {n z : Nat} {g : Option Nat} {v i : V} : vidxA n z g (sh d v) (sh d i) = (vidxA n z g v i).map (sh d) := by
  simp only [vidxA, vint_sh]
  split
  · split
    · exact vfield_sh
    · rfl
  · rfl
theorem vext_sh {i : Nat} {v : V} : vext i (sh d v) = (vext i v).map (sh d) := by
  cases v <;> simp [sh, vext, shs_get]
theorem vconv_sh {k : IntKind} {v : V} : vconv k (sh d v) = (vconv k v).map (sh d) := by cases v <;> simp [sh, vconv]
theorem vbounds_sh {n : Nat} {lo hi : Option V} : vbounds n (lo.map (sh d)) (hi.map (sh d)) = vbounds n lo hi := by
  cases lo <;> cases hi <;> simp [vbounds, vint_sh]
theorem vslS_sh {z : Nat} {v : V} {lo hi : Option V} : vslS z (sh d v) (lo.map (sh d)) (hi.map (sh d)) = (vslS z v lo hi).map (sh d) := by
  cases v <;> simp only [sh, vslS, Option.map_none, vbounds_sh]
  · split <;> simp [sh]
  · split
    · split
      · split
        · simp [sh]
        · split <;> simp [sh]
      · rfl
    · rfl
theorem vslT_sh {v : V} {lo hi : Option V} : vslT (sh d v) (lo.map (sh d)) (hi.map (sh d)) = (vslT v lo hi).map (sh d) := by
  cases v <;> simp only [sh, vslT, Option.map_none, vbounds_sh]
  split <;> simp [sh]
theorem vslS3_sh {z : Nat} {v mx : V} {lo hi : Option V} : vslS3 z (sh d v) (lo.map (sh d)) (hi.map (sh d)) (sh d mx) = (vslS3 z v lo hi mx).map (sh d) := by
  cases v <;> simp only [sh, vslS3, Option.map_none]
  case snil =>
    simp only [vint_sh]
    cases vint mx with
    | none => rfl
    | some m =>
      simp only
      split
      · cases hi with
        | none => rfl
        | some h =>
          have := vbounds_sh (d := d) (n := 0) (lo := lo) (hi := some h)
          simp only [Option.map_some] at this
          simp only [Option.map_some, this]
          split
          · simp [sh]
          · rfl
      · rfl
  simp only [vint_sh]
  cases vint mx with
  | none => rfl
  | some m =>
    simp only
    split
    · cases hi with
      | none => rfl
      | some h =>
        have := vbounds_sh (d := d) (n := m.toNat) (lo := lo) (hi := some h)
        simp only [Option.map_some] at this
        simp only [Option.map_some, this]
        split
        · split
          · simp [sh]
          · split <;> simp [sh]
        · rfl
    · rfl
theorem vlenS_sh {v : V} : vlenS (sh d v) = vlenS v := by cases v <;> simp [sh, vlenS]
theorem vlenT_sh {v : V} : vlenT (sh d v) = vlenT v := by cases v <;> simp [sh, vlenT]
theorem vnilc_sh {v : V} : vnilc (sh d v) = (vnilc v).map (sh d) := by
  cases v <;> simp [sh, vnilc]
  rename_i f fs cs
  cases f <;> simp [sh]
theorem veqN_sh {b : Bool} {v : V} : veqN b (sh d v) = veqN b v := by cases v <;> simp [sh, veqN, vnull]
theorem vun_sh {op : UnOp} {v : V} : vun op (sh d v) = (vun op v).map (sh d) := by
  cases v <;> simp only [sh, vun, Option.map_none] <;> split <;> simp [sh]
theorem vbin_sh {op : BinOp} {x y : V} : vbin op (sh d x) (sh d y) = (vbin op x y).map (sh d) := by
  cases x
  case int k a =>
    cases y
    case int k' b =>
      simp only [sh, vbin]
      split
      · unfold vshift; split
        · split <;> simp [sh]
        · split <;> simp [sh]
        · rfl
      · split
        · split <;> first | rfl | (simp [sh]; done) | (split <;> simp [sh])
        · rfl
    all_goals simp [sh, vbin]
  case str a =>
    cases y
    case str b =>
      simp only [sh, vbin]
      split <;> first | rfl | (simp [sh]; done) | (split <;> simp [sh])
    all_goals simp [sh, vbin]
  all_goals simp [sh, vbin]
theorem eqCell_sh {k : CK} {x y : V} : eqCell k (sh d x) (sh d y) = eqCell k x y := by
  cases k <;> cases x <;> cases y <;> simp [sh, eqCell]
theorem eqCells_sh : ∀ {ks : List CK} {xs ys : List V}, eqCells ks (shs d xs) (shs d ys) = eqCells ks xs ys
  | [], [], [] => by simp [shs]
  | [], [], _ :: _ => by simp [shs, eqCells]
  | [], _ :: _, ys => by simp [shs, eqCells]
  | _ :: _, [], ys => by simp [shs, eqCells]
  | _ :: _, _ :: _, [] => by simp [shs, eqCells]
  | k :: ks, x :: xs, y :: ys => by simp only [shs, eqCells, eqCell_sh, eqCells_sh (ks := ks)]
theorem vfill_sh : ∀ {ps : List (Nat × Nat × V)} {cs : List V}, vfill (shs d cs) (ps.map fun p => (p.1, p.2.1, sh d p.2.2)) = (vfill cs ps).map (shs d)
  | [], cs => by simp [vfill]
  | (o, s, v) :: ps, cs => by
    simp only [List.map_cons, vfill, stor_sh, cellsV_sh, shs_len, splice_sh]
    split
    · split
      · split
        · exact vfill_sh
        · rfl
      · rfl
    · rfl
theorem vtarget_sh {v : V} {args : List V} : vtarget (sh d v) (shs d args) = (vtarget v args).map fun p => (p.1, shs d p.2) := by
  cases v with
  | func f fs cs =>
    cases f with
    | func g => simp only [sh, vtarget]; split <;> simp [shs_app]
    | _ => simp [sh, vtarget]
  | yl b => simp [sh, vtarget, shs]
  | _ => simp only [sh, vtarget, Option.map_none]

/-! operands -/
variable {fr : Fr}
theorem opd_sh {x : Opd} (h : cloO x = true) : opd (shF d fr) x = sh d (opd fr x) := by
  cases x with
  | t n => rfl
  | c v => exact (sh_clo h).symm
theorem opdO_sh {x : Option Opd} (h : cloOO x = true) : opdO (shF d fr) x = (opdO fr x).map (sh d) := by
  cases x with
  | none => rfl
  | some x => simp only [opdO, opd_sh (x := x) h, Option.map_some]
theorem opds_sh : ∀ {xs : List Opd}, cloOs xs = true → opds (shF d fr) xs = shs d (opds fr xs)
  | [], _ => by simp [opds, shs]
  | x :: xs, h => by
    simp only [cloOs, Bool.and_eq_true] at h
    simp only [opds, shs, opd_sh h.1, opds_sh h.2]
theorem opdP_sh : ∀ {xs : List (Nat × Nat × Opd)}, cloP xs = true → opdP (shF d fr) xs = (opdP fr xs).map fun p => (p.1, p.2.1, sh d p.2.2)
  | [], _ => rfl
  | (o, s, x) :: xs, h => by
    simp only [cloP, Bool.and_eq_true] at h
    simp only [opdP, List.map_cons, opd_sh h.1, opdP_sh h.2]
end

/-! the heap -/
section
variable {G H H' : Hp} {L L' : Lo}
theorem shH_get {b : Nat} : (shH G H)[b + G.length]? = (H[b]?).map (shB G.length) := by
  unfold shH
  rw [List.getElem?_append_right (by omega), Nat.add_sub_cancel]; simp
theorem shH_len : (shH G H).length = H.length + G.length := by simp [shH]; omega
theorem shH_set {b : Nat} {x : Blk} : (shH G H).set (b + G.length) (shB G.length x) = shH G (H.set b x) := by
  unfold shH
  rw [List.set_append_right _ _ (by omega), Nat.add_sub_cancel, List.map_set]
theorem shH_push {x : Blk} : shH G H ++ [shB G.length x] = shH G (H ++ [x]) := by simp [shH]
theorem shL_get {d i : Nat} : (shL d L)[i]? = (L[i]?).map (shs d) := by simp [shL]
theorem shL_len {d : Nat} : (shL d L).length = L.length := by simp [shL]
theorem shL_set {d i : Nat} {x : List V} : (shL d L).set i (shs d x) = shL d (L.set i x) := by simp [shL, List.map_set]
theorem shL_push {d : Nat} {x : List V} : shL d L ++ [shs d x] = shL d (L ++ [x]) := by simp [shL]
theorem vload_sh {g : Option Nat} {v : V} : vload g (shL G.length L) (shH G H) (sh G.length v) = (vload g L H v).map (sh G.length) := by
  cases v <;> simp only [sh, vload, Option.map_none, shH_get, shL_get]
  · rename_i b o
    rcases H[b]? with _ | (_ | _ | _ | _) <;> simp [shB, rd_sh]
  · rename_i i o
    cases L[i]? <;> simp [rd_sh]
theorem vstoreH_sh {lim lim' b o : Nat} {xs : List V} (hl : lim' ≤ lim + G.length) (h : vstoreH lim H b o xs = some H') : vstoreH lim' (shH G H) (b + G.length) o (shs G.length xs) = some (shH G H') := by
  unfold vstoreH at h ⊢
  split at h
  case isFalse => cases h
  rw [if_pos (by omega), shH_get]
  split at h
  case h_2 => cases h
  rename_i cs hb
  split at h
  case isFalse => cases h
  rename_i hle
  cases h
  simp only [hb, Option.map_some, shB, shs_len, if_pos hle, splice_sh, Option.some.injEq]
  exact shH_set (x := .row (splice cs o xs) true)
theorem vstore_sh {lim lim' n : Nat} {a x : V} (hl : lim' ≤ lim + G.length) (h : vstore lim L H a x n = some (L', H')) : vstore lim' (shL G.length L) (shH G H) (sh G.length a) (sh G.length x) n = some (shL G.length L', shH G H') := by
  unfold vstore at h ⊢
  simp only [stor_sh, cellsV_sh, shs_len]
  split at h
  case isFalse => cases h
  rename_i h1
  rw [if_pos h1]
  split at h
  case isFalse => cases h
  rename_i h2
  rw [if_pos h2]
  split at h
  · rename_i b o
    simp only [sh]
    split at h
    · rename_i H1 h3
      cases h
      rw [vstoreH_sh hl h3]
    · cases h
  · rename_i i o
    simp only [sh, shL_get]
    split at h
    case h_2 => cases h
    rename_i cs hcs
    simp only [hcs, Option.map_some, shs_len]
    split at h
    case isFalse => cases h
    rename_i h3
    rw [if_pos h3]
    cases h
    rw [splice_sh, shL_set]
  · cases h
theorem vcells_sh {z : Nat} {v : V} : vcells z (shH G H) (sh G.length v) = (vcells z H v).map (shs G.length) := by
  cases v <;> simp only [sh, vcells, Option.map_none, shH_get, Option.map_some, shs]
  rename_i b o n z'
  split
  · rcases H[b]? with _ | (_ | _ | _ | _ | _)
    · rfl
    · rename_i cs own
      simp only [Option.map_some, shB, shs_len]
      split <;> simp [shs_take, shs_drop]
    · rfl
    · rfl
    · rfl
    · rfl
  · rfl
theorem vslA_sh {n z : Nat} {v : V} {lo hi : Option V} : vslA n z (shH G H) (sh G.length v) (lo.map (sh G.length)) (hi.map (sh G.length)) = (vslA n z H v lo hi).map (sh G.length) := by
  cases v <;> simp only [sh, vslA, Option.map_none, shH_get, vbounds_sh]
  rename_i b o
  rcases H[b]? with _ | (_ | _ | _ | _ | _)
  · rfl
  · rename_i cs own
    simp only [Option.map_some, shB, shs_len]
    split
    · split
      · split
        · simp [sh]
        · split <;> simp [sh]
      · rfl
    · rfl
  · rfl
  · rfl
  · rfl
  · rfl
theorem vappend_sh {lim lim' z y : Nat} {a x v : V} (hl : lim' ≤ lim + G.length) (h : vappend lim z y H a x = some (v, H')) : vappend lim' z y (shH G H) (sh G.length a) (sh G.length x) = some (sh G.length v, shH G H') := by
  unfold vappend at h ⊢
  simp only [vcells_sh, vlenS_sh]
  split at h
  case h_2 => cases h
  rename_i new k n hn hk
  simp only [hn, hk, Option.map_some]
  split at h
  · simp only [sh]
    split at h
    · rename_i h1; rw [if_pos h1]; cases h; simp [sh]
    · rename_i h1; rw [if_neg h1]
      split at h
      case isFalse => cases h
      rename_i h2
      rw [if_pos h2]
      split at h
      case isFalse => cases h
      rename_i h3
      rw [if_pos h3]
      cases h
      simp only [sh, shH_len, Option.some.injEq, Prod.mk.injEq, true_and]
      exact shH_push (x := .row new true)
  · rename_i b o len z'
    simp only [sh]
    split at h
    case isFalse => cases h
    rename_i h1
    rw [if_pos ⟨h1.1, h1.2.1, by omega⟩, shH_get]
    split at h
    case h_2 => cases h
    rename_i cs hb
    simp only [hb, Option.map_some, shB, shs_len]
    split at h
    case isFalse => cases h
    rename_i h2
    rw [if_pos h2]
    split at h
    case isFalse => cases h
    rename_i h3
    rw [if_pos h3]
    split at h
    case isFalse => cases h
    rename_i h4
    rw [if_pos h4]
    cases h
    simp only [sh, shH_len, Option.some.injEq, Prod.mk.injEq, true_and]
    rw [show Blk.dead = shB G.length .dead from rfl, shH_set, ← shs_app]
    exact shH_push (x := .row (cs ++ new) true)
  · simp only [sh]
    split at h
    · rename_i h1; rw [if_pos h1]; cases h; simp [sh]
    · rename_i h1; rw [if_neg h1]
      split at h
      case isFalse => cases h
      rename_i h2
      rw [if_pos h2]
      split at h
      case isFalse => cases h
      rename_i h3
      rw [if_pos h3]
      cases h
      simp only [sh, shH_len, Option.some.injEq, Prod.mk.injEq, true_and]
      exact shH_push (x := .row new true)
  · cases h
theorem vcopy_sh {lim lim' z : Nat} {a x v : V} (hl : lim' ≤ lim + G.length) (h : vcopy lim z H a x = some (v, H')) : vcopy lim' z (shH G H) (sh G.length a) (sh G.length x) = some (sh G.length v, shH G H') := by
  unfold vcopy at h ⊢
  simp only [vcells_sh, vlenS_sh]
  split at h
  case h_2 => cases h
  rename_i k n k' m hn hm
  try simp only [hn, hm]
  split at h
  case h_2 => cases h
  rename_i cs hcs
  try simp only [hcs, Option.map_some]
  split at h
  · rename_i h1; rw [if_pos h1]; cases h; simp [sh]
  · rename_i h1; rw [if_neg h1]
    split at h
    case h_2 => cases h
    rename_i b o len z'
    simp only [sh]
    split at h
    case isFalse => cases h
    rename_i h2
    rw [if_pos h2]
    split at h
    case h_2 => cases h
    rename_i H1 h3
    cases h
    rw [← shs_take, vstoreH_sh hl h3]
    simp [sh]
theorem vclr_sh {lim lim' z : Nat} {zs : List V} {v : V} (hz : clos zs = true) (hl : lim' ≤ lim + G.length) (h : vclr lim z zs H v = some H') : vclr lim' z zs (shH G H) (sh G.length v) = some (shH G H') := by
  unfold vclr at h ⊢
  split at h
  · cases h; simp [sh]
  · cases h; simp [sh]
  · simp only [sh]
    split at h
    case isFalse => cases h
    rename_i h1
    rw [if_pos h1]
    split at h
    · rename_i h2; rw [if_pos h2]; cases h; rfl
    · rename_i h2; rw [if_neg h2]
      have := vstoreH_sh (G := G) hl h
      rw [shs_rowOf hz] at this
      exact this
  · cases h

theorem pureV_sh {x y : Option V} {r : VNext} (e : y = x.map (sh G.length)) (h : pureV L H x = some r) : pureV (shL G.length L) (shH G H) y = some (shN G r) := by
  subst e
  cases x with
  | none => simp [pureV] at h
  | some v => simp [pureV] at h; subst h; rfl

def shE (d : Nat) (es : List (V × V)) : List (V × V) := es.map fun p => (sh d p.1, sh d p.2)
theorem isAggV_sh {d : Nat} {v : V} : isAggV (sh d v) = isAggV v := by cases v <;> simp [sh, isAggV]
theorem keyOk_sh {d : Nat} {g : Bool} {ks : List CK} {k : V} : keyOk g ks (sh d k) = keyOk g ks k := by
  simp only [keyOk, isAggV_sh, stor_sh, cellsV_sh, eqCells_sh]
theorem mfind_sh {d : Nat} {ks : List CK} {k : V} : ∀ {es : List (V × V)}, mfind ks (sh d k) (shE d es) = (mfind ks k es).map fun r => r.map fun p => (p.1, sh d p.2)
  | [] => rfl
  | (k', v) :: es => by
    have ih := mfind_sh (d := d) (ks := ks) (k := k) (es := es)
    simp only [shE, List.map_cons, mfind, isAggV_sh, cellsV_sh, eqCells_sh] at ih ⊢
    rw [ih]
    split
    · rfl
    · cases mfind ks k es with
      | none => rfl
      | some r => cases r <;> rfl
    · rfl
theorem optH_sh {x y : Option V} {v : V} (e : y = x.map (sh G.length)) (h : optH H x = some (v, H')) : optH (shH G H) y = some (sh G.length v, shH G H') := by
  subst e
  cases x with
  | none => simp [optH] at h
  | some u => simp [optH] at h; obtain ⟨rfl, rfl⟩ := h; rfl
theorem vmget_sh {g ok : Bool} {ks : List CK} {z x k v : V} (hz : clo z = true) (h : vmget g ks ok z H x k = some v) : vmget g ks ok z (shH G H) (sh G.length x) (sh G.length k) = some (sh G.length v) := by
  unfold vmget at h
  split at h
  case h_2 => cases h
  rename_i b
  split at h
  case h_2 => cases h
  rename_i es hb
  split at h
  case isFalse => cases h
  rename_i hk
  have hb2 : (shH G H)[b + G.length]? = some (.map (shE G.length es)) := by rw [shH_get, hb]; rfl
  simp only [sh, vmget, hb2, keyOk_sh, hk, if_true, mfind_sh]
  split at h
  · rename_i i u hf
    rw [hf]
    cases ok <;> simp at h <;> subst h <;> simp [sh, shs]
  · rename_i hf
    rw [hf]
    cases ok <;> simp at h <;> subst h <;> simp [sh, shs, sh_clo hz]
  · cases h
theorem vmput_sh {lim lim' : Nat} {g : Bool} {ks : List CK} {x k u : V} (hl : lim' ≤ lim + G.length) (h : vmput lim g ks H x k u = some H') : vmput lim' g ks (shH G H) (sh G.length x) (sh G.length k) (sh G.length u) = some (shH G H') := by
  unfold vmput at h
  split at h
  case h_2 => cases h
  rename_i b
  split at h
  case isFalse => cases h
  rename_i hlim
  split at h
  case h_2 => cases h
  rename_i es hb
  split at h
  case isFalse => cases h
  rename_i hk
  have hb2 : (shH G H)[b + G.length]? = some (.map (shE G.length es)) := by rw [shH_get, hb]; rfl
  have hl2 : lim' ≤ b + G.length := by omega
  simp only [sh, vmput, hl2, if_true, hb2, keyOk_sh, stor_sh, hk, mfind_sh]
  split at h
  · rename_i i u0 hf
    rw [hf]
    cases h
    have : Blk.map ((shE G.length es).set i (sh G.length k, sh G.length u)) = shB G.length (.map (es.set i (k, u))) := by simp [shB, shE, List.map_set]
    simp only [Option.map_some, this, shH_set]
  · rename_i hf
    rw [hf]
    cases h
    have : Blk.map (shE G.length es ++ [(sh G.length k, sh G.length u)]) = shB G.length (.map (es ++ [(k, u)])) := by simp [shB, shE]
    simp only [Option.map_some, Option.map_none, this, shH_set]
  · cases h
theorem vment_sh {lim lim' : Nat} {g : Bool} {ks : List CK} {z x k v : V} (hz : clo z = true) (hl : lim' ≤ lim + G.length) (h : vment lim g ks z H x k = some (v, H')) : vment lim' g ks z (shH G H) (sh G.length x) (sh G.length k) = some (sh G.length v, shH G H') := by
  unfold vment at h
  split at h
  case h_2 => cases h
  rename_i b
  split at h
  case isFalse => cases h
  rename_i hlim
  split at h
  case h_2 => cases h
  rename_i es hb
  split at h
  case isFalse => cases h
  rename_i hk
  have hb2 : (shH G H)[b + G.length]? = some (.map (shE G.length es)) := by rw [shH_get, hb]; rfl
  have hl2 : lim' ≤ b + G.length := by omega
  simp only [sh, vment, hl2, if_true, hb2, keyOk_sh, hk, mfind_sh]
  split at h
  · rename_i i u0 hf
    rw [hf]
    cases h
    have : Blk.map ((shE G.length es).set i (sh G.length k, sh G.length u0)) = shB G.length (.map (es.set i (k, u0))) := by simp [shB, shE, List.map_set]
    simp only [Option.map_some, this, shH_set, sh, shs]
  · rename_i hf
    rw [hf]
    cases h
    have : Blk.map (shE G.length es ++ [(sh G.length k, z)]) = shB G.length (.map (es ++ [(k, z)])) := by simp [shB, shE, sh_clo hz]
    have hle : (shE G.length es).length = es.length := by simp [shE]
    simp only [Option.map_some, Option.map_none, this, shH_set, sh, shs, sh_clo hz, hle]
  · cases h
theorem vmest_sh {lim lim' : Nat} {x n v : V} (hl : lim' ≤ lim + G.length) (h : vmest lim H x n v = some H') : vmest lim' (shH G H) (sh G.length x) (sh G.length n) (sh G.length v) = some (shH G H') := by
  unfold vmest at h
  split at h
  case h_2 => cases h
  rename_i b kk m
  split at h
  case isFalse => cases h
  rename_i hlim
  split at h
  case h_2 => cases h
  rename_i es hb
  split at h
  case isFalse => cases h
  rename_i hs
  split at h
  case h_2 => cases h
  rename_i k0 v0 hg
  have hb2 : (shH G H)[b + G.length]? = some (.map (shE G.length es)) := by rw [shH_get, hb]; rfl
  have hl2 : lim' ≤ b + G.length ∧ 0 ≤ m := by omega
  have hg2 : (shE G.length es)[m.toNat]? = some (sh G.length k0, sh G.length v0) := by simp [shE, hg]
  simp only [sh, vmest, hl2, if_true, hb2, stor_sh, hs, hg2]
  cases h
  have : Blk.map ((shE G.length es).set m.toNat (sh G.length k0, sh G.length v)) = shB G.length (.map (es.set m.toNat (k0, v))) := by simp [shB, shE, List.map_set]
  simp only [this, shH_set, and_self, if_true]
theorem sh_mkslc {d b o n z c : Nat} : sh d (mkslc b o n z c) = mkslc (b + d) o n z c := by unfold mkslc; split <;> simp [sh]
theorem vslC_sh {d z : Nat} {v : V} {lo hi : Option V} : vslC z (sh d v) (lo.map (sh d)) (hi.map (sh d)) = (vslC z v lo hi).map (sh d) := by
  cases v <;> simp only [sh, vslC, Option.map_none, vbounds_sh]
  · split <;> simp [sh]
  · split
    · split
      · split
        · simp [sh_mkslc]
        · split <;> simp [sh, sh_mkslc]
      · rfl
    · rfl
  · split
    · cases hi with
      | none => rfl
      | some hi =>
        have := vbounds_sh (d := d) (n := by assumption) (lo := lo) (hi := some hi)
        simp only [Option.map_some] at this ⊢
        rw [this]
        split
        · split
          · simp [sh_mkslc]
          · split <;> simp [sh, sh_mkslc]
        · rfl
    · rfl
theorem vappC_sh {lim lim' z y : Nat} {wk : Bool} {a x v : V} (hl : lim' ≤ lim + G.length) (h : vappC wk lim z y H a x = some (v, H')) : vappC wk lim' z y (shH G H) (sh G.length a) (sh G.length x) = some (sh G.length v, shH G H') := by
  unfold vappC at h
  split at h
  case h_2 =>
    rename_i hne
    have := vappend_sh (G := G) hl h
    unfold vappC
    split
    · rename_i heq
      cases a <;> simp [sh] at heq
      exact absurd rfl (hne _ _ _ _ _)
    · exact this
  rename_i b o n z' cp
  simp only [sh, vappC, vcells_sh, vlenS_sh]
  split at h
  case h_2 => cases h
  rename_i new kk k hc hk
  simp only [hc, hk, Option.map_some]
  split at h
  case isFalse => cases h
  rename_i hcond
  rw [if_pos hcond]
  split at h
  case h_2 => cases h
  rename_i H2 hst
  cases h
  split at hst
  · rename_i h0
    cases hst
    simp only [h0, if_true]
    cases wk <;> simp [sh, sh_mkslc]
  · rename_i h0
    simp only [h0, if_false, vstoreH_sh (G := G) hl hst]
    cases wk <;> simp [sh, sh_mkslc]
theorem vapp0_sh {z y : Nat} {a x v : V} (h : vapp0 z y H a x = some (v, H')) : vapp0 z y (shH G H) (sh G.length a) (sh G.length x) = some (sh G.length v, shH G H') := by
  unfold vapp0 at h
  split at h
  case h_2 => cases h
  simp only [sh, vapp0, vcells_sh, vlenS_sh]
  split at h
  case h_2 => cases h
  rename_i new kk k hc hk
  simp only [hc, hk, Option.map_some]
  split at h
  · rename_i h0
    cases h
    simp [h0, sh]
  · rename_i h0
    rw [if_neg h0]
    split at h
    case isFalse => cases h
    rename_i h1
    rw [if_pos h1]
    split at h
    case isFalse => cases h
    rename_i h2
    rw [if_pos h2]
    cases h
    simp only [sh, shH_len]
    rw [← shH_push]; rfl
theorem vappz_sh {z y : Nat} {zs : List V} {a x v : V} (hz : clos zs = true) (h : vappz z y zs H a x = some (v, H')) : vappz z y zs (shH G H) (sh G.length a) (sh G.length x) = some (sh G.length v, shH G H') := by
  unfold vappz at h
  split at h
  case h_2 => cases h
  simp only [sh, vappz]
  split at h
  · rename_i h0
    cases h
    simp [h0, sh]
  · rename_i h0
    rw [if_neg h0]
    split at h
    case isFalse => cases h
    rename_i h1
    rw [if_pos h1]
    cases h
    simp only [sh, shH_len]
    rw [← shH_push]
    simp only [shB, shs_rowOf hz]
theorem vrange_sh {x v : V} (h : vrange H x = some (v, H')) : vrange (shH G H) (sh G.length x) = some (sh G.length v, shH G H') := by
  unfold vrange at h
  split at h
  case h_2 => cases h
  cases h
  simp only [sh, vrange, shH_len]
  rw [← shH_push]; rfl
theorem vnext_sh {lim lim' : Nat} {x v : V} (hl : lim' ≤ lim + G.length) (h : vnext lim H x = some (v, H')) : vnext lim' (shH G H) (sh G.length x) = some (sh G.length v, shH G H') := by
  unfold vnext at h
  split at h
  case h_2 => cases h
  rename_i b
  split at h
  case isFalse => cases h
  rename_i hlim
  split at h
  case h_2 => cases h
  rename_i s p hb
  have hb2 : (shH G H)[b + G.length]? = some (.sit s p) := by rw [shH_get, hb]; rfl
  have hl2 : lim' ≤ b + G.length := by omega
  simp only [sh, vnext, hl2, if_true, hb2]
  split at h
  · rename_i hp
    cases h
    rw [if_pos hp]
    have e : (shH G H).set (b + G.length) (.sit s (p + (Utf8.decode s p).2)) = shH G (H.set b (.sit s (p + (Utf8.decode s p).2))) := shH_set (x := .sit s (p + (Utf8.decode s p).2))
    rw [e]; simp [sh, shs]
  · rename_i hp
    cases h
    rw [if_neg hp]; simp [sh, shs]
theorem byteOf_sh {d : Nat} {v : V} : byteOf (sh d v) = byteOf v := by cases v <;> simp [sh, byteOf]
theorem bytesOf_sh {d : Nat} : ∀ {cs : List V}, bytesOf (shs d cs) = bytesOf cs
  | [] => by simp [shs]
  | c :: cs => by simp only [shs, bytesOf, byteOf_sh, bytesOf_sh (cs := cs)]
theorem runesOf_sh {d : Nat} : ∀ {cs : List V} {acc : ByteArray}, runesOf acc (shs d cs) = runesOf acc cs
  | [], acc => by simp [shs]
  | c :: cs, acc => by
    cases c <;> simp only [shs, sh] <;> first | (simp only [runesOf]; done) | skip
    rename_i k n
    cases k <;> simp only [runesOf]
    exact runesOf_sh
theorem evX_sh {lim lim' : Nat} {k : XOp} {vs : List V} {v : V} (hk : cloX k = true) (hl : lim' ≤ lim + G.length) (h : evX lim H k vs = some (v, H')) : evX lim' (shH G H) k (shs G.length vs) = some (sh G.length v, shH G H') := by
  cases k with
  | mkm =>
    rcases vs with _ | ⟨x, vs⟩ <;> simp only [evX] at h
    · cases h
      simp only [shs, evX, sh, shH_len]
      rw [← shH_push]; rfl
    · cases h
  | mget g ks ok z =>
    rcases vs with _ | ⟨x, _ | ⟨y, _ | ⟨z2, vs⟩⟩⟩ <;> simp only [evX] at h <;> try (cases h; done)
    simp only [shs, evX]
    obtain ⟨h1, h2⟩ := optH_eq h
    subst h2
    exact optH_sh (x := some v) (by rw [vmget_sh hk h1]; rfl) rfl
  | mput g ks =>
    rcases vs with _ | ⟨x, _ | ⟨y, _ | ⟨z2, _ | ⟨z3, vs⟩⟩⟩⟩ <;> simp only [evX] at h <;> try (cases h; done)
    simp only [shs, evX]
    cases hq : vmput lim g ks H x y z2 with
    | none => rw [hq] at h; simp [optV] at h
    | some H1 =>
      rw [hq] at h; simp only [optV, Option.some.injEq, Prod.mk.injEq] at h
      obtain ⟨rfl, rfl⟩ := h
      rw [vmput_sh hl hq]; simp [optV, sh_dv]
  | ment g ks z =>
    rcases vs with _ | ⟨x, _ | ⟨y, _ | ⟨z2, vs⟩⟩⟩ <;> simp only [evX] at h <;> try (cases h; done)
    simp only [shs, evX]
    exact vment_sh hk hl h
  | mest =>
    rcases vs with _ | ⟨x, _ | ⟨y, _ | ⟨z2, _ | ⟨z3, vs⟩⟩⟩⟩ <;> simp only [evX] at h <;> try (cases h; done)
    simp only [shs, evX]
    cases hq : vmest lim H x y z2 with
    | none => rw [hq] at h; simp [optV] at h
    | some H1 =>
      rw [hq] at h; simp only [optV, Option.some.injEq, Prod.mk.injEq] at h
      obtain ⟨rfl, rfl⟩ := h
      rw [vmest_sh hl hq]; simp [optV, sh_dv]
  | lenM =>
    rcases vs with _ | ⟨x, _ | ⟨y, vs⟩⟩ <;> simp only [evX] at h <;> try (cases h; done)
    simp only [shs, evX]
    refine optH_sh ?_ h
    cases x <;> simp only [sh, vlenM, Option.map_none]
    rename_i b
    rw [shH_get]
    rcases H[b]? with _ | (_ | _ | _ | _ | _) <;> simp [shB, sh]
  | slC sz lo hi =>
    cases lo <;> cases hi <;> rcases vs with _ | ⟨x, _ | ⟨l, _ | ⟨h2, _ | ⟨z, vs⟩⟩⟩⟩ <;> simp only [evX] at h <;> try (cases h; done)
    · simp only [shs, evX]; exact optH_sh (vslC_sh (lo := none) (hi := none)) h
    · simp only [shs, evX]; exact optH_sh (vslC_sh (lo := none) (hi := some l)) h
    · simp only [shs, evX]; exact optH_sh (vslC_sh (lo := some l) (hi := none)) h
    · simp only [shs, evX]; exact optH_sh (vslC_sh (lo := some l) (hi := some h2)) h
  | capN =>
    rcases vs with _ | ⟨x, _ | ⟨y, vs⟩⟩ <;> simp only [evX] at h <;> try (cases h; done)
    simp only [shs, evX]
    refine optH_sh ?_ h
    cases x <;> simp [sh, vcapN]
  | maxL =>
    simp only [evX] at h ⊢
    refine optH_sh ?_ h
    rcases vs with _ | ⟨x, _ | ⟨y, _ | ⟨z, _ | ⟨u, _ | ⟨t, vs⟩⟩⟩⟩⟩ <;> try (simp [shs, vmaxL]; done)
    · cases x <;> first | rfl | (simp [shs, sh, vmaxL]; done) | (cases y <;> first | rfl | (simp [shs, sh, vmaxL]; done) | (cases z <;> first | rfl | (simp [shs, sh, vmaxL]; done) | (cases u <;> first | rfl | (simp [shs, sh, vmaxL]; done))))
  | apz sz bytes z =>
    rcases vs with _ | ⟨x, _ | ⟨y, _ | ⟨z2, vs⟩⟩⟩ <;> simp only [evX] at h <;> try (cases h; done)
    simp only [shs, evX]
    exact vappz_sh hk h
  | rgS =>
    rcases vs with _ | ⟨x, _ | ⟨y, vs⟩⟩ <;> simp only [evX] at h <;> try (cases h; done)
    simp only [shs, evX]
    exact vrange_sh h
  | nxS =>
    rcases vs with _ | ⟨x, _ | ⟨y, vs⟩⟩ <;> simp only [evX] at h <;> try (cases h; done)
    simp only [shs, evX]
    exact vnext_sh hl h
  | strB =>
    rcases vs with _ | ⟨x, _ | ⟨y, vs⟩⟩ <;> simp only [evX] at h <;> try (cases h; done)
    simp only [shs, evX]
    refine optH_sh ?_ h
    simp only [vstrB, vcells_sh]
    cases vcells 1 H x with
    | none => rfl
    | some cs =>
      simp only [Option.map_some, bytesOf_sh]
      cases bytesOf cs <;> simp [sh]
  | strR =>
    rcases vs with _ | ⟨x, _ | ⟨y, vs⟩⟩ <;> simp only [evX] at h <;> try (cases h; done)
    simp only [shs, evX]
    refine optH_sh ?_ h
    cases x <;> simp [sh, vstrR]
  | wk =>
    rcases vs with _ | ⟨x, _ | ⟨y, vs⟩⟩ <;> simp only [evX] at h <;> try (cases h; done)
    simp only [shs, evX]
    refine optH_sh ?_ h
    cases x <;> simp [sh, vwk, vweak, stor]
  | ask q => simp [cloX] at hk
  | unI t =>
    rcases vs with _ | ⟨x, _ | ⟨y, vs⟩⟩ <;> simp only [evX] at h <;> try (cases h; done)
    simp only [shs, evX]
    refine optH_sh ?_ h
    cases x <;> simp only [sh, vunI, Option.map_none]
    split <;> simp
  | pnilT neg =>
    rcases vs with _ | ⟨x, _ | ⟨y, vs⟩⟩ <;> simp only [evX] at h <;> try (cases h; done)
    simp only [shs, evX]
    refine optH_sh ?_ h
    cases x <;> simp [sh, vpnilT]
  | inilT neg =>
    rcases vs with _ | ⟨x, _ | ⟨y, vs⟩⟩ <;> simp only [evX] at h <;> try (cases h; done)
    simp only [shs, evX]
    refine optH_sh ?_ h
    cases x <;> simp [sh, vinilT]
  | mkI t =>
    rcases vs with _ | ⟨x, _ | ⟨y, vs⟩⟩ <;> simp only [evX] at h <;> try (cases h; done)
    simp only [shs, evX]
    refine optH_sh ?_ h
    unfold vmkI
    rw [stor_sh]
    split <;> simp [sh]
  | pan => simp [evX] at h
  | strRs =>
    rcases vs with _ | ⟨x, _ | ⟨y, vs⟩⟩ <;> simp only [evX] at h <;> try (cases h; done)
    simp only [shs, evX]
    refine optH_sh ?_ h
    simp only [vstrRs, vcells_sh]
    cases vcells 1 H x with
    | none => rfl
    | some cs =>
      simp only [Option.map_some, runesOf_sh]
      cases runesOf .empty cs <;> simp [sh]
  | bs0 =>
    rcases vs with _ | ⟨x, vs⟩ <;> simp only [evX] at h
    · cases h; simp [shs, evX, sh]
    · cases h
  | ap0 sz bytes =>
    rcases vs with _ | ⟨x, _ | ⟨y, _ | ⟨z2, vs⟩⟩⟩ <;> simp only [evX] at h <;> try (cases h; done)
    simp only [shs, evX]
    exact vapp0_sh h
  | apc wk sz bytes =>
    rcases vs with _ | ⟨x, _ | ⟨y, _ | ⟨z2, vs⟩⟩⟩ <;> simp only [evX] at h <;> try (cases h; done)
    simp only [shs, evX]
    exact vappC_sh hl h

/-- ONE OPERATION, ELSEWHERE -/
theorem evOp_sh {lim lim' : Nat} {fr : Fr} {op : VOp} {r : VNext} (hop : cloOp op = true) (hl : lim' ≤ lim + G.length) (h : evOp lim fr L H op = some r) :
    evOp lim' (shF G.length fr) (shL G.length L) (shH G H) op = some (shN G r) := by
  cases op with
  | move x => simp only [evOp, opd_sh hop] at h ⊢; cases h; rfl
  | pick c a b =>
    simp only [cloOp, Bool.and_eq_true] at hop
    simp only [evOp, opd_sh hop.1, opd_sh hop.2.1, opd_sh hop.2.2] at h ⊢
    split at h
    case h_2 => cases h
    rename_i t ht
    rw [ht]
    cases h
    simp only [sh, shN]
    cases t <;> rfl
  | new loc z =>
    simp only [cloOp] at hop
    simp only [evOp] at h ⊢
    split at h
    · rename_i hb; rw [if_pos hb]; cases h
      simp only [shN, sh, shL_len, ← shL_push, shs_clos hop]
    · rename_i hb; rw [if_neg hb]; cases h
      simp only [shN, sh, shH_len, ← shH_push, shB, shs_clos hop]
  | box loc x =>
    simp only [evOp, opd_sh hop, stor_sh] at h ⊢
    split at h
    case isFalse => cases h
    rename_i hs
    rw [if_pos hs]
    split at h
    · rename_i hb; rw [if_pos hb]; cases h
      simp only [shN, sh, shL_len, ← shL_push, cellsV_sh]
    · rename_i hb; rw [if_neg hb]; cases h
      simp only [shN, sh, shH_len, ← shH_push, shB, cellsV_sh]
  | build z ps =>
    simp only [cloOp, Bool.and_eq_true] at hop
    simp only [evOp, opdP_sh hop.2] at h ⊢
    rw [← shs_clos (d := G.length) hop.1, vfill_sh]
    split at h
    case h_2 => cases h
    rename_i cs hcs
    rw [hcs]; cases h; simp [shN, sh]
  | bslice sz n z ps =>
    simp only [cloOp, Bool.and_eq_true] at hop
    simp only [evOp, opdP_sh hop.2] at h ⊢
    rw [← shs_clos (d := G.length) hop.1, vfill_sh]
    split at h
    case h_2 => cases h
    rename_i cs hcs
    rw [hcs]; cases h; simp only [Option.map_some, shN, sh, shH_len, ← shH_push, shB]
  | mks sz bytes z l c =>
    simp only [cloOp, Bool.and_eq_true] at hop
    simp only [evOp, opd_sh hop.2.1, opd_sh hop.2.2] at h ⊢
    split at h
    case h_2 => cases h
    rename_i n k m k' hn hm
    rw [hn, hm]
    split at h
    case isFalse => cases h
    rename_i hc
    simp only [sh, if_pos hc]
    cases h
    simp only [shN, sh, shH_len, ← shH_push, shB, shs_rowOf hop.1]
  | load g a => simp only [evOp, opd_sh hop] at h ⊢; exact pureV_sh vload_sh h
  | store n a x =>
    simp only [cloOp, Bool.and_eq_true] at hop
    simp only [evOp, opd_sh hop.1, opd_sh hop.2] at h ⊢
    split at h
    case h_2 => cases h
    rename_i L1 H1 h1
    cases h
    rw [vstore_sh hl h1]
    simp [shN, sh_dv]
  | bin op x y =>
    simp only [cloOp, Bool.and_eq_true] at hop
    simp only [evOp, opd_sh hop.1, opd_sh hop.2] at h ⊢
    exact pureV_sh vbin_sh h
  | eqB neg x y =>
    simp only [cloOp, Bool.and_eq_true] at hop
    simp only [evOp, opd_sh hop.1, opd_sh hop.2] at h ⊢
    split at h
    case h_2 => cases h
    rename_i a b ha hb
    rw [ha, hb]; cases h; rfl
  | eqA neg ks x y =>
    simp only [cloOp, Bool.and_eq_true] at hop
    simp only [evOp, opd_sh hop.1, opd_sh hop.2] at h ⊢
    split at h
    case h_2 => cases h
    rename_i xs ys hx hy
    rw [hx, hy]
    simp only [sh, eqCells_sh]
    split at h
    case h_2 => cases h
    cases h; rfl
  | un op x => simp only [evOp, opd_sh hop] at h ⊢; exact pureV_sh vun_sh h
  | faddr o x => simp only [evOp, opd_sh hop] at h ⊢; exact pureV_sh vfaddr_sh h
  | iaddrA n z x i =>
    simp only [cloOp, Bool.and_eq_true] at hop
    simp only [evOp, opd_sh hop.1, opd_sh hop.2] at h ⊢; exact pureV_sh viaddrA_sh h
  | iaddrS z x i =>
    simp only [cloOp, Bool.and_eq_true] at hop
    simp only [evOp, opd_sh hop.1, opd_sh hop.2] at h ⊢; exact pureV_sh viaddrS_sh h
  | idxA n z g x i =>
    simp only [cloOp, Bool.and_eq_true] at hop
    simp only [evOp, opd_sh hop.1, opd_sh hop.2] at h ⊢; exact pureV_sh vidxA_sh h
  | idxT x i =>
    simp only [cloOp, Bool.and_eq_true] at hop
    simp only [evOp, opd_sh hop.1, opd_sh hop.2] at h ⊢; exact pureV_sh vidxT_sh h
  | field o g x => simp only [evOp, opd_sh hop] at h ⊢; exact pureV_sh vfield_sh h
  | ext x i => simp only [evOp, opd_sh hop] at h ⊢; exact pureV_sh vext_sh h
  | conv k x => simp only [evOp, opd_sh hop] at h ⊢; exact pureV_sh vconv_sh h
  | slA n z x lo hi =>
    simp only [cloOp, Bool.and_eq_true] at hop
    simp only [evOp, opd_sh hop.1, opdO_sh hop.2.1, opdO_sh hop.2.2] at h ⊢; exact pureV_sh vslA_sh h
  | slS z x lo hi =>
    simp only [cloOp, Bool.and_eq_true] at hop
    simp only [evOp, opd_sh hop.1, opdO_sh hop.2.1, opdO_sh hop.2.2] at h ⊢; exact pureV_sh vslS_sh h
  | slT x lo hi =>
    simp only [cloOp, Bool.and_eq_true] at hop
    simp only [evOp, opd_sh hop.1, opdO_sh hop.2.1, opdO_sh hop.2.2] at h ⊢; exact pureV_sh vslT_sh h
  | call f args =>
    simp only [evOp, opds_sh hop, allStor_sh] at h ⊢
    split at h
    case isFalse => cases h
    rename_i hs
    rw [if_pos hs]; cases h; rfl
  | lenS x => simp only [evOp, opd_sh hop, vlenS_sh] at h ⊢; exact pureV_sh (by cases opd fr x <;> simp [vlenS, sh]) h
  | lenT x => simp only [evOp, opd_sh hop, vlenT_sh] at h ⊢; exact pureV_sh (by cases opd fr x <;> simp [vlenT, sh]) h
  | lenA n => simp only [evOp] at h ⊢; cases h; rfl
  | append sz bytes x y =>
    simp only [cloOp, Bool.and_eq_true] at hop
    simp only [evOp, opd_sh hop.1, opd_sh hop.2] at h ⊢
    split at h
    case h_2 => cases h
    rename_i v H1 h1
    cases h
    rw [vappend_sh hl h1]; rfl
  | copy sz x y =>
    simp only [cloOp, Bool.and_eq_true] at hop
    simp only [evOp, opd_sh hop.1, opd_sh hop.2] at h ⊢
    split at h
    case h_2 => cases h
    rename_i v H1 h1
    cases h
    rw [vcopy_sh hl h1]; rfl
  | max2 x y =>
    simp only [cloOp, Bool.and_eq_true] at hop
    simp only [evOp, opd_sh hop.1, opd_sh hop.2] at h ⊢
    split at h
    case h_2 => cases h
    rename_i a b ha hb
    rw [ha, hb]; cases h; rfl
  | min2 x y =>
    simp only [cloOp, Bool.and_eq_true] at hop
    simp only [evOp, opd_sh hop.1, opd_sh hop.2] at h ⊢
    split at h
    case h_2 => cases h
    rename_i a b ha hb
    rw [ha, hb]; cases h; rfl
  | max3 x y z =>
    simp only [cloOp, Bool.and_eq_true] at hop
    simp only [evOp, opd_sh hop.1, opd_sh hop.2.1, opd_sh hop.2.2] at h ⊢
    refine pureV_sh ?_ h
    cases opd fr x <;> first | rfl | (cases opd fr y <;> first | rfl | (cases opd fr z <;> first | rfl | simp [sh, vmax3]))
  | min3 x y z =>
    simp only [cloOp, Bool.and_eq_true] at hop
    simp only [evOp, opd_sh hop.1, opd_sh hop.2.1, opd_sh hop.2.2] at h ⊢
    refine pureV_sh ?_ h
    cases opd fr x <;> first | rfl | (cases opd fr y <;> first | rfl | (cases opd fr z <;> first | rfl | simp [sh, vmin3]))
  | nilc x => simp only [evOp, opd_sh hop] at h ⊢; exact pureV_sh vnilc_sh h
  | mkf f fs cs =>
    simp only [cloOp, Bool.and_eq_true] at hop
    simp only [evOp, opds_sh hop.1, opds_sh hop.2, allStor_sh] at h ⊢
    split at h
    case isFalse => cases h
    rename_i hs
    rw [if_pos hs]; cases h; simp [shN, sh]
  | callV x xs =>
    simp only [cloOp, Bool.and_eq_true] at hop
    simp only [evOp, opd_sh hop.1, opds_sh hop.2, allStor_sh, vtarget_sh] at h ⊢
    split at h
    case isFalse => cases h
    rename_i hs
    rw [if_pos hs]
    split at h
    case h_2 => cases h
    rename_i f vs hf
    rw [hf]; cases h; rfl
  | clr sz z x =>
    simp only [cloOp, Bool.and_eq_true] at hop
    simp only [evOp, opd_sh hop.2] at h ⊢
    split at h
    case h_2 => cases h
    rename_i H1 h1
    cases h
    rw [vclr_sh hop.1 hl h1]
    simp [shN, sh_dv]
  | slS3 z x lo hi mx =>
    simp only [cloOp, Bool.and_eq_true] at hop
    simp only [evOp, opd_sh hop.1, opdO_sh hop.2.1, opdO_sh hop.2.2.1, opd_sh hop.2.2.2] at h ⊢; exact pureV_sh vslS3_sh h
  | eqN neg x =>
    simp only [evOp, opd_sh hop, veqN_sh] at h ⊢
    refine pureV_sh ?_ h
    cases opd fr x <;> simp [sh, veqN, vnull]
  | bytes x =>
    simp only [evOp, opd_sh hop] at h ⊢
    split at h
    case h_2 => cases h
    rename_i s hs
    rw [hs]
    cases h
    simp only [shN, sh, shH_len, ← shH_push, shB, shs_bytes]
  | x k xs =>
    simp only [cloOp, Bool.and_eq_true] at hop
    simp only [evOp, opds_sh hop.2] at h ⊢
    split at h
    case h_2 => cases h
    rename_i v H1 hx
    cases h
    rw [evX_sh hop.1 hl hx]; rfl
  | stuck => simp [evOp] at h

/-! code -/
def CallSh (G : Hp) (c c' : CallFn) : Prop := ∀ lim lim' f args H v H', lim' ≤ lim + G.length → c lim f args H = some (v, H') → c' lim' f (shs G.length args) (shH G H) = some (sh G.length v, shH G H')
def shS (G : Hp) (s : St) : St := ⟨shF G.length s.fr, shL G.length s.L, shH G s.H⟩
variable {c c' : CallFn} {lim lim' : Nat}
theorem wanted_sh {d : Nat} {fr : Fr} {g : Option (Nat × Bool)} : wanted (shF d fr) g = wanted fr g := by
  cases g with
  | none => rfl
  | some p =>
    simp only [wanted, shF]
    cases fr p.1 <;> simp [sh]
theorem shF_put {d : Nat} {fr : Fr} {t : Option Nat} {v : V} : putD (shF d fr) t (sh d v) = shF d (putD fr t v) := by
  cases t with
  | none => rfl
  | some t => funext s; simp only [putD, upd, shF]; split <;> rfl
theorem evStep_sh (hc : CallSh G c c') {o : VOper} {s s' : St} (ho : cloOp o.op = true) (hl : lim' ≤ lim + G.length) (h : evStep c lim o s = some s') : evStep c' lim' o (shS G s) = some (shS G s') := by
  unfold evStep evVal at h ⊢
  simp only [shS, wanted_sh]
  split at h
  case h_2 => cases h
  rename_i v L1 H1 hv
  cases h
  split at hv
  · rename_i hw
    rw [if_pos hw]
    split at hv
    · rename_i v2 L2 H2 h2
      cases hv
      rw [evOp_sh ho hl h2]
      simp only [shN, shF_put]
    · rename_i f args h2
      split at hv
      case h_2 => cases hv
      rename_i v2 H2 h3
      cases hv
      rw [evOp_sh ho hl h2]
      simp only [shN, hc _ _ _ _ _ _ _ hl h3, shF_put]
    · cases hv
  · rename_i hw
    rw [if_neg hw]
    cases hv
    have := shF_put (d := G.length) (fr := s.fr) (t := o.dst) (v := dv)
    rw [sh_dv] at this
    simp only [this]
theorem evOps_sh (hc : CallSh G c c') (hl : lim' ≤ lim + G.length) : ∀ {l : List VOper} {s s' : St}, cloL l = true → evOps c lim l s = some s' → evOps c' lim' l (shS G s) = some (shS G s')
  | [], s, s', _, h => by simp only [evOps] at h ⊢; cases h; rfl
  | o :: l, s, s', ho, h => by
    simp only [cloL, Bool.and_eq_true] at ho
    simp only [evOps] at h ⊢
    split at h
    case h_2 => cases h
    rename_i s1 h1
    rw [evStep_sh hc ho.1 hl h1]
    exact evOps_sh hc hl ho.2 h
theorem memId_sh {d : Nat} {fr : Fr} {op : VOp} (ho : cloOp op = true) : memId (shF d fr) op = memId fr op := by
  cases op <;> try rfl
  · simp only [cloOp] at ho
    simp only [memId, opd_sh ho]
    cases opd fr _ <;> simp [sh]
  · simp only [cloOp, Bool.and_eq_true] at ho
    simp only [memId, opd_sh ho.1]
    cases opd fr _ <;> simp [sh]
theorem headOk_sh {d : Nat} {fr : Fr} {op : VOp} (ho : cloOp op = true) : headOk (shF d fr) op = headOk fr op := by
  cases op <;> try rfl
  simp only [cloOp, Bool.and_eq_true] at ho
  simp only [headOk, opd_sh ho.1]
  cases opd fr _ <;> simp [sh]
theorem hfree_sh {d : Nat} {fr : Fr} {op : VOp} (ho : cloOp op = true) : hfree (shF d fr) op = hfree fr op := by
  cases op <;> try rfl
  · simp only [cloOp] at ho
    simp only [hfree, opd_sh ho]
    cases opd fr _ <;> simp [sh]
  · simp only [cloOp, Bool.and_eq_true] at ho
    simp only [hfree, opd_sh ho.1]
    cases opd fr _ <;> simp [sh]
theorem hstore_sh {d : Nat} {fr : Fr} {op : VOp} (ho : cloOp op = true) : hstore (shF d fr) op = hstore fr op := by
  cases op <;> try rfl
  case x k args => cases k <;> rfl
  simp only [cloOp, Bool.and_eq_true] at ho
  simp only [hstore, opd_sh ho.1]
  cases opd fr _ <;> simp [sh]
theorem evHead_sh (hc : CallSh G c c') : ∀ {l : List VOper} {k : Nat} {s s' : St} {acc : List (Nat × Nat)}, cloL l = true → evHead c k l s acc = some s' → evHead c' k l (shS G s) acc = some (shS G s')
  | [], k, s, s', acc, _, h => by simp only [evHead] at h ⊢; cases h; rfl
  | o :: l, k, s, s', acc, ho, h => by
    simp only [cloL, Bool.and_eq_true] at ho
    simp only [evHead] at h ⊢
    have e : headAcc o k (shS G s) acc = headAcc o k s acc := by simp only [headAcc, shS, wanted_sh, memId_sh ho.1, headOk_sh ho.1]
    rw [e]
    split at h
    · cases h
    rename_i acc' ha
    split at h
    case h_2 => cases h
    rename_i s1 h1
    rw [evStep_sh hc ho.1 (lim' := (shS G s).H.length) (by simp only [shS, shH_len]; exact Nat.le_refl _) h1]
    exact evHead_sh hc ho.2 h
theorem evHeadS_sh (hc : CallSh G c c') (hl : lim' ≤ lim + G.length) : ∀ {l : List VOper} {k : Nat} {s s' : St} {acc : List (Nat × Nat)} {hp : HpAcc}, cloL l = true → evHeadS c lim k l s acc hp = some s' → evHeadS c' lim' k l (shS G s) acc hp = some (shS G s')
  | [], k, s, s', acc, hp, _, h => by simp only [evHeadS] at h ⊢; cases h; rfl
  | o :: l, k, s, s', acc, hp, ho, h => by
    simp only [cloL, Bool.and_eq_true] at ho
    simp only [evHeadS] at h ⊢
    have e : headAccS o k (shS G s) acc hp = headAccS o k s acc hp := by simp only [headAccS, heapAcc, shS, wanted_sh, memId_sh ho.1, hfree_sh ho.1, hstore_sh ho.1]
    rw [e]
    split at h
    · cases h
    rename_i acc' hp' ha
    split at h
    case h_2 => cases h
    rename_i s1 h1
    rw [evStep_sh hc ho.1 (lim' := headLim lim' o.op (shS G s)) ?_ h1]
    · exact evHeadS_sh hc hl ho.2 h
    · unfold headLim
      simp only [shS, hstore_sh ho.1, shH_len]
      split <;> omega
theorem hideF_sh {d : Nat} {fr : Fr} {nt : Nat} : hideF (shF d fr) nt = shs d (hideF fr nt) := by
  simp only [hideF, shs_map, List.map_map, shF, stor_sh]
  refine List.map_congr_left fun t _ => ?_
  simp only [Function.comp]
  split <;> simp [sh]
theorem setPs_sh {d : Nat} : ∀ {ps : List Nat} {ys fr : List V}, setPs (shs d fr) ps (shs d ys) = shs d (setPs fr ps ys)
  | [], ys, fr => by simp [setPs]
  | p :: ps, [], fr => by simp [setPs, shs]
  | p :: ps, y :: ys, fr => by
    simp only [setPs, shs]
    rw [← setPs_sh (ps := ps) (ys := ys) (fr := fr.set p y)]
    simp [shs_map, List.map_set]
theorem frR_sh {d : Nat} {args : List V} : frR (shs d args) = shF d (frR args) := by
  funext t
  simp only [frR, shF, List.getD_eq_getElem?_getD, shs_get]
  cases args[t]? <;> simp [sh]
theorem evCode_sh (hc : CallSh G c c') (hl : lim' ≤ lim + G.length) : ∀ {n : Nat} {x : VCode} {s s' : St} {e : VExit}, cloC x = true → evCode c lim n x s = some (e, s') → evCode c' lim' n x (shS G s) = some (e, shS G s')
  | 0, x, s, s', e, _, h => by simp [evCode] at h
  | n + 1, x, s, s', e, ho, h => by
    have ih := fun {x : VCode} {s s' : St} {e : VExit} => evCode_sh hc hl (n := n) (x := x) (s := s) (s' := s') (e := e)
    cases x with
    | skip => simp only [evCode] at h ⊢; cases h; rfl
    | exit id => simp only [evCode] at h ⊢; cases h; rfl
    | ret => simp only [evCode] at h ⊢; cases h; rfl
    | stuck => simp [evCode] at h
    | prim _ => simp [evCode] at h
    | rangeF g f ps nt =>
      simp only [cloC] at ho
      simp only [evCode] at h ⊢
      split at h
      case h_2 => cases h
      rename_i hh fs cs hq
      split at h
      · cases h
      rename_i hny
      split at h
      case h_2 => cases h
      rename_i v H2 hcl
      split at h
      case h_2 => cases h
      rename_i f2 ps2 fr2 hb2
      cases h
      have k := hc _ _ _ _ _ _ _ hl hcl
      have e1 : shs G.length (fs ++ [.yl s.H.length] ++ cs) = shs G.length fs ++ [.yl (shH G s.H).length] ++ shs G.length cs := by
        simp [shs_app, shs, sh, shH, Nat.add_comm]
      have e2 : shH G (s.H ++ [.loop f ps (hideF s.fr nt)]) = shH G s.H ++ [.loop f ps (hideF (shF G.length s.fr) nt)] := by
        rw [← shH_push, hideF_sh]; rfl
      have e3 : (shH G H2)[(shH G s.H).length]? = some (.loop f2 ps2 (shs G.length fr2)) := by
        have : (shH G s.H).length = s.H.length + G.length := by simp [shH, Nat.add_comm]
        rw [this, shH_get, hb2]; rfl
      rw [e1, e2] at k
      simp only [shS, opd_sh ho, hq, sh, if_neg hny, k, e3]
      have : (shH G s.H).length = s.H.length + G.length := by simp [shH, Nat.add_comm]
      rw [this]
      exact congrArg (fun X => some (VExit.normal, (⟨shF G.length s.fr, shL G.length s.L, X⟩ : St))) (shH_set (x := .dead))
    | reg ops =>
      simp only [evCode] at h ⊢
      split at h
      case h_2 => cases h
      rename_i s1 h1
      cases h
      rw [evOps_sh hc hl ho h1]
    | draw a b =>
      simp only [cloC, Bool.and_eq_true] at ho
      simp only [evCode] at h ⊢
      split at h
      case h_2 => cases h
      rename_i s1 h1
      split at h
      case h_2 => cases h
      rename_i s2 h2
      cases h
      rw [evHead_sh hc ho.1 h1]
      simp only [evOps_sh hc hl ho.2 h2]
    | drawS a b =>
      simp only [cloC, Bool.and_eq_true] at ho
      simp only [evCode] at h ⊢
      split at h
      case h_2 => cases h
      rename_i s1 h1
      split at h
      case h_2 => cases h
      rename_i s2 h2
      cases h
      rw [evHeadS_sh hc hl ho.1 h1]
      simp only [evOps_sh hc hl ho.2 h2]
    | seq a b =>
      simp only [cloC, Bool.and_eq_true] at ho
      simp only [evCode] at h ⊢
      split at h
      · rename_i s1 h1
        rw [ih ho.1 h1]
        exact ih ho.2 h
      · rename_i hne
        rw [ih ho.1 h]
        cases e with
        | normal => exact absurd h (hne s')
        | exit id => rfl
        | ret => rfl
    | cond cc a b =>
      simp only [cloC, Bool.and_eq_true] at ho
      simp only [evCode] at h ⊢
      simp only [shS]
      rw [opd_sh ho.1]
      split at h
      · rename_i hb; rw [hb]; exact ih ho.2.1 h
      · rename_i hb; rw [hb]; exact ih ho.2.2 h
      · cases h
    | block id b =>
      simp only [cloC] at ho
      simp only [evCode] at h ⊢
      split at h
      · rename_i id' s1 h1
        rw [ih ho h1]
        simp only
        split at h
        · rename_i hb; rw [if_pos hb]; cases h; rfl
        · rename_i hb; rw [if_neg hb]; cases h; rfl
      · rename_i hne
        rw [ih ho h]
        cases e with
        | exit id' => exact absurd h (hne id' s')
        | normal => rfl
        | ret => rfl
    | loop b =>
      have ho' := ho
      simp only [cloC] at ho
      simp only [evCode] at h ⊢
      split at h
      · rename_i s1 h1
        rw [ih ho h1]
        exact ih ho' h
      · rename_i hne
        rw [ih ho h]
        cases e with
        | normal => exact absurd h (hne s')
        | exit id => rfl
        | ret => rfl
    | scope b =>
      simp only [evCode] at h ⊢
      exact ih ho h
theorem resV_sh {fr : Fr} {r : VRes} : resV (shF G.length fr) (shL G.length L) (shH G H) r = (resV fr L H r).map (sh G.length) := by
  cases r with
  | tmp t => simp only [resV, shF, stor_sh]; split <;> simp
  | weak t =>
    have e : ∀ v, vweak (sh G.length v) = sh G.length (vweak v) := fun v => by cases v <;> simp [sh, vweak]
    simp only [resV, shF, stor_sh, e]; split <;> simp
  | cell t g => simp only [resV, shF]; exact vload_sh
theorem resVs_sh {fr : Fr} : ∀ {rs : List VRes}, resVs (shF G.length fr) (shL G.length L) (shH G H) rs = (resVs fr L H rs).map (shs G.length)
  | [] => by simp [resVs, shs]
  | r :: rs => by
    simp only [resVs, resV_sh, resVs_sh (rs := rs)]
    cases resV fr L H r <;> cases resVs fr L H rs <;> simp [shs]
theorem vres_sh {fr : Fr} {rs : List VRes} : vres rs (shF G.length fr) (shL G.length L) (shH G H) = (vres rs fr L H).map (sh G.length) := by
  simp only [vres, resVs_sh]
  rcases resVs fr L H rs with _ | l
  · rfl
  · rcases l with _ | ⟨a, _ | ⟨b, l⟩⟩ <;> simp [shs, sh]
end

/-- the table, less what holds an address -/
def cloT (T : Tbl) : Tbl := fun f => match T f with
  | some vf => if cloC vf.body then some vf else none
  | none => none

/-- a given contract, elsewhere -/
def PrimSh (G : Hp) (g0 g : PrimF) : Prop := ∀ args H v bs, g0 args H = some (v, bs) → g (shs G.length args) (shH G H) = some (sh G.length v, bs.map (shB G.length))
/-- a table, less what holds an address -/
def ShT (G : Hp) (T0 T : Tbl) : Prop := ∀ f vf, T0 f = some vf → (T f = some vf ∧ cloC vf.body = true) ∨ ∃ vf' g0 g, T f = some vf' ∧ vf'.nparams = vf.nparams ∧ primOf vf.body = some g0 ∧ primOf vf'.body = some g ∧ PrimSh G g0 g
theorem ShT.clo {G : Hp} {T : Tbl} : ShT G (cloT T) T := by
  intro f vf h
  unfold cloT at h
  split at h
  · rename_i vf' h1
    split at h
    · rename_i h2; cases h; exact Or.inl ⟨h1, h2⟩
    · cases h
  · cases h
theorem primOf_clo {c : VCode} (h : cloC c = true) : primOf c = none := by
  cases c <;> first | rfl | (simp [cloC] at h)
/-- A CALL, ELSEWHERE -/
theorem evFn_sh {G : Hp} {T0 : Tbl} (T : Tbl) (hT : ShT G T0 T) : ∀ n, CallSh G (evFn T0 n) (evFn T n)
  | 0 => fun lim lim' f args H v H' _ h => by simp [evFn] at h
  | n + 1 => fun lim lim' f args H v H' hl h => by
    simp only [evFn] at h ⊢
    by_cases hy : f = yB
    · rw [if_pos hy] at h ⊢
      obtain ⟨b, xs, f', ps, fr, vf, x, y, s1, f1, ps1, fr1, s, rfl, hb, hlb, hlen, hvf, hnp, hbody, h1, hb1, h2, hd, rfl, rfl, hge⟩ := evYield_spec h
      have this : T f' = some vf ∧ cloC vf.body = true := by
        rcases hT f' vf hvf with h | ⟨vf', g0, g, _, _, h, _⟩
        · exact h
        · rw [hbody] at h; cases h
      have hcl := this.2
      rw [hbody] at hcl
      simp only [cloC, Bool.and_eq_true] at hcl
      have k1 := evCode_sh (evFn_sh (G := G) T hT n) hl hcl.1 h1
      have k2 := evCode_sh (evFn_sh (G := G) T hT n) hl hcl.2 h2
      have e2 : shH G (s1.H.set b .dead) = (shH G s1.H).set (b + G.length) .dead := (shH_set (x := .dead)).symm
      simp only [shS, e2] at k2
      have g0 : (shH G H)[b + G.length]? = some (.loop f' ps (shs G.length fr)) := by rw [shH_get, hb]; rfl
      have g1 : (shH G s1.H)[b + G.length]? = some (.loop f1 ps1 (shs G.length fr1)) := by rw [shH_get, hb1]; rfl
      have g2 : (shH G s.H)[b + G.length]? = some .dead := by rw [shH_get, hd]; rfl
      have c1 : lim' ≤ b + G.length := by omega
      simp only [shs, sh, evYield]
      simp only [g0, c1, shs_len, hlen, hge, and_self, if_true, this.1, hnp, hbody]
      have k1' : evCode (evFn T n) lim' n x ⟨frR (setPs (shs G.length fr) ps (shs G.length xs)), [], shH G H⟩ = some (.normal, ⟨shF G.length s1.fr, shL G.length s1.L, shH G s1.H⟩) := by
        rw [setPs_sh, frR_sh]; exact k1
      simp only [k1', g1, k2, g2]
      exact congrArg (fun X => some (V.bool true, X)) (shH_set (x := .loop f' ps fr))
    rw [if_neg hy] at h ⊢
    split at h
    · cases h
    rename_i hrb
    rw [if_neg hrb]
    split at h
    · cases h
    rename_i vf hvf
    rcases hT f vf hvf with this | ⟨vf', g0, g, h1, h2, h3, h4, h5⟩
    case inr =>
      simp only [h3] at h
      split at h
      case isFalse => cases h
      rename_i hn
      split at h
      case h_2 => cases h
      rename_i v1 bs hg
      cases h
      have := h5 _ _ _ _ hg
      have e : shH G (H ++ bs) = shH G H ++ bs.map (shB G.length) := by simp [shH]
      simp only [h1, shs_len, h2, hn, if_true, h4, this, e]
    have hpn := primOf_clo this.2
    rw [this.1]
    simp only [shs_len]
    split at h
    case isFalse => cases h
    rename_i hn
    rw [if_pos hn]
    simp only [hpn] at h ⊢
    have e0 : fr0 (shs G.length args) = shF G.length (fr0 args) := by
      funext t; simp only [fr0, shF, shs_getD]
    have key : ∀ e s, evCode (evFn T0 n) lim n vf.body ⟨fr0 args, [], H⟩ = some (e, s) → evCode (evFn T n) lim' n vf.body ⟨fr0 (shs G.length args), [], shH G H⟩ = some (e, shS G s) := by
      intro e s hs
      have := evCode_sh (evFn_sh (G := G) T hT n) hl this.2 hs
      rw [e0]; exact this
    split at h
    · cases h
    · rename_i e s hne hs
      rw [key e s hs]
      split at h
      case h_2 => cases h
      rename_i v1 hv1
      cases h
      cases e with
      | exit id => exact (hne id rfl).elim
      | normal => simp only [shS, vres_sh, hv1, Option.map_some]
      | ret => simp only [shS, vres_sh, hv1, Option.map_some]
    · cases h

def isTrue : Option (V × Hp) → Bool
  | some (.bool b, _) => b
  | _ => false
/-- a call without arguments that says true over the empty heap says so behind any -/
theorem vcall_knownT {T0 T : Tbl} {n lim : Nat} {f : FuncId} {H : Hp} {K : V → Hp → Prop} (hT : ShT H T0 T) (h : isTrue (evFn T0 n 0 f [] []) = true) (hlim : lim ≤ H.length) (hK : ∀ X, K (.bool true) (H ++ X)) :
    VCall T lim f [] H K := by
  cases hr : evFn T0 n 0 f [] [] with
  | none => rw [hr] at h; cases h
  | some r =>
    obtain ⟨v, H1⟩ := r
    rw [hr] at h
    cases v <;> simp only [isTrue] at h <;> try (cases h; done)
    subst h
    have := evFn_sh (G := H) T hT n 0 lim f [] [] _ _ (by omega) hr
    have e : shH H [] = H := by simp [shH]
    rw [e] at this
    exact ⟨n, .bool true, shH H H1, by simpa [shs, sh] using this, hK _⟩
theorem vcall_known {T : Tbl} {n lim : Nat} {f : FuncId} {H : Hp} {K : V → Hp → Prop} (h : isTrue (evFn (cloT T) n 0 f [] []) = true) (hlim : lim ≤ H.length) (hK : ∀ X, K (.bool true) (H ++ X)) :
    VCall T lim f [] H K := vcall_knownT ShT.clo h hlim hK
/-! given contracts over values that stand for themselves -/
theorem flatV_sh {d : Nat} {v : V} (h : flatV v = true) : sh d v = v := by
  unfold flatV at h
  split at h <;> first | rfl | (simp [sh, shs]; done) | cases h
theorem flats_sh {d : Nat} : ∀ {vs : List V}, vs.all flatV = true → shs d vs = vs
  | [], _ => by simp [shs]
  | v :: vs, h => by
    simp only [List.all_cons, Bool.and_eq_true] at h
    simp only [shs, flatV_sh h.1, flats_sh h.2]
theorem flatT_sh {d : Nat} {v : V} (h : flatT v = true) : sh d v = v := by
  unfold flatT at h
  split at h
  · simp only [sh, flats_sh h]
  · exact flatV_sh h
theorem primSh_flat {G : Hp} {chk : Hp → Bool} {g : List V → Option V} (hc : ∀ H, chk (shH G H) = true) : PrimSh G (flatP (fun _ => true) g) (flatP chk g) := by
  intro args H v bs h
  unfold flatP at h ⊢
  split at h
  case isFalse => cases h
  rename_i hf
  simp only [Bool.true_and] at hf
  split at h
  case h_2 => cases h
  rename_i v' hv
  split at h
  case isFalse => cases h
  rename_i hfl
  cases h
  rw [flats_sh hf]
  simp only [hc, hf, Bool.and_self, if_true, hv, hfl, flatT_sh hfl, List.map_nil]
/-- the table in which some contracts are asked for less -/
def knT (T : Tbl) (Q : FuncId → Option PrimF) : Tbl := fun f => match Q f with
  | some g0 => match T f with
    | some vf => some ⟨vf.nparams, vf.results, .prim g0⟩
    | none => none
  | none => cloT T f
theorem ShT.kn {G : Hp} {T : Tbl} {Q : FuncId → Option PrimF} (h : ∀ f g0, Q f = some g0 → ∀ vf, T f = some vf → ∃ g, primOf vf.body = some g ∧ PrimSh G g0 g) : ShT G (knT T Q) T := by
  intro f vf hf
  unfold knT at hf
  split at hf
  · rename_i g0 hq
    split at hf
    · rename_i vf' hvf
      cases hf
      obtain ⟨g, h1, h2⟩ := h f g0 hq vf' hvf
      exact Or.inr ⟨vf', g0, g, hvf, rfl, rfl, h1, h2⟩
    · cases hf
  · exact ShT.clo f vf hf
end Go.Proofs.YtpdnbmnnkefedaaGreatDoor.Vm
