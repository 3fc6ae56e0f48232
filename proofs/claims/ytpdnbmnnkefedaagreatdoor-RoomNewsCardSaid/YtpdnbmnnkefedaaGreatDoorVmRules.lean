/- What simp knows of the machine. -/
import Derived.Test.YtpdnbmnnkefedaaGreatDoorVmWp
namespace Go.Proofs.YtpdnbmnnkefedaaGreatDoor.Vm
open Go
set_option linter.unusedVariables false
set_option linter.unusedSimpArgs false

/-- a list of ints as cells -/
def ints (l : List Int) : List V := l.map (V.int .i64)

theorem ints_length (l : List Int) : (ints l).length = l.length := by simp [ints]
theorem ints_getD {l : List Int} {i : Nat} (h : i < l.length) : (ints l).getD i dv = .int .i64 (l.getD i 0) := by
  simp [ints, List.getD_eq_getElem?_getD, h]
theorem ints_get? (l : List Int) (i : Nat) : (ints l)[i]? = (l[i]?).map (V.int .i64) := by simp [ints]

theorem rd_ints {l : List Int} {i : Nat} (h : i < l.length) : rd none (ints l) i = some (.int .i64 (l.getD i 0)) := by
  simp only [rd, ints_length, h, if_true, ints_getD h]
theorem rd_ints_all {l : List Int} {n : Nat} (h : n = l.length) : rd (some n) (ints l) 0 = some (.agg (ints l)) := by
  subst h
  simp [rd, ints_length]
  rw [List.take_of_length_le (by simp [ints_length])]

theorem splice_ints {l m : List Int} {i : Nat} : splice (ints l) i (ints m) = ints (l.take i ++ m ++ l.drop (i + m.length)) := by
  simp [splice, ints, List.map_append, List.map_take, List.map_drop]
theorem splice_ints_one {l : List Int} {i : Nat} {x : Int} (h : i < l.length) : splice (ints l) i [.int .i64 x] = ints (l.set i x) := by
  simp [splice, ints, List.set_eq_take_append_cons_drop, h]
/-- n zeros -/
def zs (n : Nat) : List Int := List.replicate n 0
def zsV (n : Nat) : List V := List.replicate n (.int .i64 0)
theorem zs_length (n : Nat) : (zs n).length = n := by simp [zs]
theorem zsV_ints (n : Nat) : zsV n = ints (zs n) := by simp [zs, zsV, ints]
theorem splice_ints_all {l m : List Int} (h : m.length = l.length) : splice (ints l) 0 (ints m) = ints m := by
  simp [splice, ints, h]
attribute [simp] zs_length zsV_ints ints_length splice_ints_all rd_ints_all

def rdO (g : Option Nat) : Option (List V) → Nat → Option V
  | some cs, o => rd g cs o
  | none, _ => none
def rdB (g : Option Nat) : Option Blk → Nat → Option V
  | some (.row cs _), o => rd g cs o
  | _, _ => none
theorem wrap_i64 {n : Int} (h1 : -9223372036854775808 ≤ n) (h2 : n ≤ 9223372036854775807) : IntKind.wrap .i64 n = n := by
  simp [IntKind.wrap, IntKind.bits, IntKind.signed]; omega

theorem upd_eq (fr : Fr) (t : Nat) (v : V) : upd fr t v t = v := by simp [upd]
theorem upd_ne (fr : Fr) {t s : Nat} (v : V) (h : s ≠ t) : upd fr t v s = fr s := by simp [upd, h]
theorem upd_at (fr : Fr) (t s : Nat) (v : V) : upd fr t v s = if s = t then v else fr s := Eq.trans rfl rfl

/-! pieces that simp looks into only at their test: what comes behind stands in no function's body -/
def opsK (T : Tbl) (lim : Nat) (d : Option Nat) (rest : List VOper) (K : St → Prop) (fr : Fr) : V → Lo → Hp → Prop := fun v L H => wOps T lim rest K ⟨putD fr d v, L, H⟩
def headK (T : Tbl) (k : Nat) (d : Option Nat) (rest : List VOper) (acc : List (Nat × Nat)) (K : St → Prop) (fr : Fr) : V → Lo → Hp → Prop := fun v L H => wHead T (k + 1) rest acc K ⟨putD fr d v, L, H⟩
def callK (K : V → Lo → Hp → Prop) (L : Lo) : V → Hp → Prop := fun v H => K v L H
def wNext (T : Tbl) (lim : Nat) (L : Lo) (H : Hp) (r : Option VNext) (K : V → Lo → Hp → Prop) : Prop := match r with
  | some (.val v L H) => K v L H
  | some (.call f args) => VCall T lim f args H (callK K L)
  | none => False
def wStep (T : Tbl) (lim : Nat) (b : Bool) (d : Option Nat) (op : VOp) (rest : List VOper) (K : St → Prop) (fr : Fr) (L : Lo) (H : Hp) : Prop :=
  if b then wNext T lim L H (evOp lim fr L H op) (opsK T lim d rest K fr) else wOps T lim rest K ⟨putD fr d dv, L, H⟩
def wStepH (T : Tbl) (k : Nat) (b : Bool) (d : Option Nat) (op : VOp) (rest : List VOper) (acc : List (Nat × Nat)) (K : St → Prop) (fr : Fr) (L : Lo) (H : Hp) : Prop :=
  if b then wNext T H.length L H (evOp H.length fr L H op) (headK T k d rest acc K fr) else wHead T (k + 1) rest acc K ⟨putD fr d dv, L, H⟩
def wAcc (T : Tbl) (k : Nat) (r : Option (List (Nat × Nat))) (d : Option Nat) (op : VOp) (g : Option (Nat × Bool)) (rest : List VOper) (K : St → Prop) (fr : Fr) (L : Lo) (H : Hp) : Prop := match r with
  | none => False
  | some acc => wStepH T k (wanted fr g) d op rest acc K fr L H
/-- what a guarded operation leaves -/
def vif (b : Bool) (v : V) : V := if b then v else dv
/-- the opposite, kept as it is -/
def bnot (b : Bool) : Bool := !b
def wGuard (T : Tbl) (lim : Nat) (b : Bool) (d : Option Nat) (r : Option VNext) (rest : List VOper) (K : St → Prop) (fr : Fr) (L : Lo) (H : Hp) : Prop :=
  if b then wNext T lim L H r (opsK T lim d rest K fr) else wOps T lim rest K ⟨putD fr d dv, L, H⟩
def wGuardH (T : Tbl) (k : Nat) (b : Bool) (d : Option Nat) (r : Option VNext) (rest : List VOper) (acc : List (Nat × Nat)) (K : St → Prop) (fr : Fr) (L : Lo) (H : Hp) : Prop :=
  if b then wNext T H.length L H r (headK T k d rest acc K fr) else wHead T (k + 1) rest acc K ⟨putD fr d dv, L, H⟩
def wCond (T : Tbl) (lim : Nat) (v : V) (a b : VCode) (Q : VExit → St → Prop) (s : St) : Prop := match v with
  | .bool true => wCode T lim a Q s
  | .bool false => wCode T lim b Q s
  | _ => False
def wRes (r : Option V) (K : V → Hp → Prop) (H : Hp) : Prop := match r with
  | some v => K v H
  | none => False

section
variable {T : Tbl} {lim : Nat} {Q : VExit → St → Prop} {s : St} {K : St → Prop} {fr : Fr} {L : Lo} {H : Hp} {d : Option Nat} {op : VOp} {g : Option (Nat × Bool)} {l : List Nat} {rest : List VOper} {k : Nat} {acc : List (Nat × Nat)}
theorem opsK_at {v : V} : opsK T lim d rest K fr v L H = wOps T lim rest K ⟨putD fr d v, L, H⟩ := Eq.trans rfl rfl
theorem headK_at {v : V} : headK T k d rest acc K fr v L H = wHead T (k + 1) rest acc K ⟨putD fr d v, L, H⟩ := Eq.trans rfl rfl
theorem callK_at {K : V → Lo → Hp → Prop} {v : V} : callK K L v H = K v L H := Eq.trans rfl rfl
theorem wNext_val {L' : Lo} {H' : Hp} {v : V} {K : V → Lo → Hp → Prop} : wNext T lim L H (some (.val v L' H')) K = K v L' H' := Eq.trans rfl rfl
theorem wNext_call {f : FuncId} {args : List V} {K : V → Lo → Hp → Prop} : wNext T lim L H (some (.call f args)) K = VCall T lim f args H (callK K L) := Eq.trans rfl rfl
theorem wStep_true : wStep T lim true d op rest K fr L H = wNext T lim L H (evOp lim fr L H op) (opsK T lim d rest K fr) := Eq.trans rfl rfl
theorem wStep_false : wStep T lim false d op rest K fr L H = wOps T lim rest K ⟨putD fr d dv, L, H⟩ := Eq.trans rfl rfl
theorem wStepH_true : wStepH T k true d op rest acc K fr L H = wNext T H.length L H (evOp H.length fr L H op) (headK T k d rest acc K fr) := Eq.trans rfl rfl
theorem wStepH_false : wStepH T k false d op rest acc K fr L H = wHead T (k + 1) rest acc K ⟨putD fr d dv, L, H⟩ := Eq.trans rfl rfl
theorem wStep_guard {b : Bool} : wStep T lim b d op rest K fr L H = wGuard T lim b d (evOp lim fr L H op) rest K fr L H := Eq.trans rfl rfl
theorem wGuard_true {r : Option VNext} : wGuard T lim true d r rest K fr L H = wNext T lim L H r (opsK T lim d rest K fr) := Eq.trans rfl rfl
theorem wGuard_false {r : Option VNext} : wGuard T lim false d r rest K fr L H = wOps T lim rest K ⟨putD fr d dv, L, H⟩ := Eq.trans rfl rfl
theorem wGuard_val {b : Bool} {v : V} : wGuard T lim b d (some (.val v L H)) rest K fr L H = wOps T lim rest K ⟨putD fr d (vif b v), L, H⟩ := by cases b <;> rfl
theorem wStepH_guard {b : Bool} : wStepH T k b d op rest acc K fr L H = wGuardH T k b d (evOp H.length fr L H op) rest acc K fr L H := Eq.trans rfl rfl
theorem wGuardH_true {r : Option VNext} : wGuardH T k true d r rest acc K fr L H = wNext T H.length L H r (headK T k d rest acc K fr) := Eq.trans rfl rfl
theorem wGuardH_false {r : Option VNext} : wGuardH T k false d r rest acc K fr L H = wHead T (k + 1) rest acc K ⟨putD fr d dv, L, H⟩ := Eq.trans rfl rfl
theorem wGuardH_val {b : Bool} {v : V} : wGuardH T k b d (some (.val v L H)) rest acc K fr L H = wHead T (k + 1) rest acc K ⟨putD fr d (vif b v), L, H⟩ := by cases b <;> rfl
theorem wAcc_some : wAcc T k (some acc) d op g rest K fr L H = wStepH T k (wanted fr g) d op rest acc K fr L H := Eq.trans rfl rfl
theorem wCond_true {a b : VCode} : wCond T lim (.bool true) a b Q s = wCode T lim a Q s := Eq.trans rfl rfl
theorem wCond_false {a b : VCode} : wCond T lim (.bool false) a b Q s = wCode T lim b Q s := Eq.trans rfl rfl
theorem wRes_some {v : V} {K : V → Hp → Prop} : wRes (some v) K H = K v H := Eq.trans rfl rfl

theorem wOps_nil : wOps T lim [] K s = K s := Eq.trans rfl rfl
theorem wOps_cons : wOps T lim (⟨d, op, g, l⟩ :: rest) K ⟨fr, L, H⟩ = wStep T lim (wanted fr g) d op rest K fr L H := Eq.trans rfl rfl
theorem wHead_nil : wHead T k [] acc K s = K s := Eq.trans rfl rfl
theorem wHead_cons : wHead T k (⟨d, op, g, l⟩ :: rest) acc K ⟨fr, L, H⟩ = wAcc T k (headAcc ⟨d, op, g, l⟩ k ⟨fr, L, H⟩ acc) d op g rest K fr L H := by
  simp only [wHead, wAcc, wStepH, wNext, wVal]
  rfl
theorem wCode_skip : wCode T lim .skip Q s = Q .normal s := Eq.trans rfl rfl
theorem wCode_reg {ops : List VOper} : wCode T lim (.reg ops) Q s = wOps T lim ops (Q .normal) s := Eq.trans rfl rfl
theorem wCode_draw {h t : List VOper} : wCode T lim (.draw h t) Q s = wHead T 0 h [] (wOps T lim t (Q .normal)) s := Eq.trans rfl rfl
theorem wCode_seq {a b : VCode} : wCode T lim (.seq a b) Q s = wCode T lim a (seqQ (wCode T lim b Q) Q) s := Eq.trans rfl rfl
theorem wCode_block {id : Nat} {b : VCode} : wCode T lim (.block id b) Q s = wCode T lim b (blockQ id Q) s := Eq.trans rfl rfl
theorem wCode_scope {b : VCode} : wCode T lim (.scope b) Q s = wCode T lim b Q s := Eq.trans rfl rfl
theorem wCode_exit {id : Nat} : wCode T lim (.exit id) Q s = Q (.exit id) s := Eq.trans rfl rfl
theorem wCode_ret : wCode T lim .ret Q s = Q .ret s := Eq.trans rfl rfl
theorem wCode_cond {c : Opd} {a b : VCode} : wCode T lim (.cond c a b) Q ⟨fr, L, H⟩ = wCond T lim (opd fr c) a b Q ⟨fr, L, H⟩ := Eq.trans rfl rfl
theorem seqQ_normal {Q : VExit → St → Prop} : seqQ K Q .normal s = K s := Eq.trans rfl rfl
theorem seqQ_exit {Q : VExit → St → Prop} {id : Nat} : seqQ K Q (.exit id) s = Q (.exit id) s := Eq.trans rfl rfl
theorem seqQ_ret {Q : VExit → St → Prop} : seqQ K Q .ret s = Q .ret s := Eq.trans rfl rfl
theorem blockQ_normal {id : Nat} : blockQ id Q .normal s = Q .normal s := Eq.trans rfl rfl
theorem blockQ_ret {id : Nat} : blockQ id Q .ret s = Q .ret s := Eq.trans rfl rfl
theorem blockQ_eq {id : Nat} : blockQ id Q (.exit id) s = Q .normal s := by simp [blockQ]
theorem blockQ_ne {id id' : Nat} (h : id' ≠ id) : blockQ id Q (.exit id') s = Q (.exit id') s := by simp [blockQ, h]
theorem fnQ_normal {rs : List VRes} {K : V → Hp → Prop} : fnQ rs K .normal ⟨fr, L, H⟩ = wRes (vres rs fr L H) K H := Eq.trans rfl rfl
theorem fnQ_ret {rs : List VRes} {K : V → Hp → Prop} : fnQ rs K .ret ⟨fr, L, H⟩ = wRes (vres rs fr L H) K H := Eq.trans rfl rfl
end
theorem putD_none (fr : Fr) (v : V) : putD fr none v = fr := Eq.trans rfl rfl
theorem putD_some (fr : Fr) (t : Nat) (v : V) : putD fr (some t) v = upd fr t v := Eq.trans rfl rfl
theorem pureV_some {L : Lo} {H : Hp} {v : V} : pureV L H (some v) = some (.val v L H) := Eq.trans rfl rfl
section
variable {k : IntKind} {a b : Int} {x y : ByteArray}
theorem vbin_add : vbin .add (.int k a) (.int k b) = some (.int k (k.wrap (a + b))) := by simp [isShift, vbin]
theorem vbin_sub : vbin .sub (.int k a) (.int k b) = some (.int k (k.wrap (a - b))) := by simp [isShift, vbin]
theorem vbin_mul : vbin .mul (.int k a) (.int k b) = some (.int k (k.wrap (a * b))) := by simp [isShift, vbin]
theorem vbin_quo (h : b ≠ 0) : vbin .quo (.int k a) (.int k b) = some (.int k (k.wrap (a.tdiv b))) := by simp [isShift, vbin, h]
theorem vbin_rem (h : b ≠ 0) : vbin .rem (.int k a) (.int k b) = some (.int k (a.tmod b)) := by simp [isShift, vbin, h]
theorem vbin_eql : vbin .eql (.int k a) (.int k b) = some (.bool (decide (a = b))) := by simp [isShift, vbin]; rfl
theorem vbin_neq : vbin .neq (.int k a) (.int k b) = some (.bool (!decide (a = b))) := by simp [isShift, vbin]; rfl
theorem vbin_lss : vbin .lss (.int k a) (.int k b) = some (.bool (decide (a < b))) := by simp [isShift, vbin]
theorem vbin_leq : vbin .leq (.int k a) (.int k b) = some (.bool (decide (a ≤ b))) := by simp [isShift, vbin]
theorem vbin_gtr : vbin .gtr (.int k a) (.int k b) = some (.bool (decide (b < a))) := by simp [isShift, vbin]
theorem vbin_geq : vbin .geq (.int k a) (.int k b) = some (.bool (decide (b ≤ a))) := by simp [isShift, vbin]
theorem vbin_and {k : IntKind} {a b : Int} : vbin .and (.int k a) (.int k b) = some (.int k (k.wrap (BitVec.ofInt k.bits a &&& BitVec.ofInt k.bits b).toNat)) := by simp [isShift, vbin]
theorem vbin_or {k : IntKind} {a b : Int} : vbin .or (.int k a) (.int k b) = some (.int k (k.wrap (BitVec.ofInt k.bits a ||| BitVec.ofInt k.bits b).toNat)) := by simp [isShift, vbin]
theorem vbin_xor {k : IntKind} {a b : Int} : vbin .xor (.int k a) (.int k b) = some (.int k (k.wrap (BitVec.ofInt k.bits a ^^^ BitVec.ofInt k.bits b).toNat)) := by simp [isShift, vbin]
theorem vint_int : vint (.int k a) = some a := Eq.trans rfl rfl
theorem vfaddr_lp {o i p : Nat} : vfaddr o (.lp i p) = some (.lp i (p + o)) := Eq.trans rfl rfl
theorem vfaddr_ptr {o i p : Nat} : vfaddr o (.ptr i p) = some (.ptr i (p + o)) := Eq.trans rfl rfl
theorem viaddrA_in {len sz : Nat} {v : V} (h : 0 ≤ a ∧ a < len) : viaddrA len sz v (.int k a) = vfaddr (a.toNat * sz) v := by simp [viaddrA, vint, h]
theorem viaddrS_in {o i n sz : Nat} (h : 0 ≤ a ∧ a < n) : viaddrS sz (.sl i o n sz) (.int k a) = some (.ptr i (o + a.toNat * sz)) := by simp [viaddrS, vint, h]
theorem vload_lp {g : Option Nat} {L : Lo} {H : Hp} {i o : Nat} {cs : List V} (h : L[i]? = some cs) : vload g L H (.lp i o) = rd g cs o := by simp [vload, h]
theorem vload_lpO {g : Option Nat} {L : Lo} {H : Hp} {i o : Nat} : vload g L H (.lp i o) = rdO g L[i]? o := by
  simp only [vload]; cases L[i]? <;> rfl
theorem vload_ptrO {g : Option Nat} {L : Lo} {H : Hp} {i o : Nat} : vload g L H (.ptr i o) = rdB g H[i]? o := by
  simp only [vload]; rcases H[i]? with _ | (_ | _) <;> rfl
theorem rdO_some {g : Option Nat} {o : Nat} {cs : List V} : rdO g (some cs) o = rd g cs o := Eq.trans rfl rfl
theorem rdB_row {g : Option Nat} {o : Nat} {cs : List V} {own : Bool} : rdB g (some (.row cs own)) o = rd g cs o := Eq.trans rfl rfl
theorem vload_ptr {g : Option Nat} {L : Lo} {H : Hp} {i o : Nat} {cs : List V} {own : Bool} (h : H[i]? = some (.row cs own)) : vload g L H (.ptr i o) = rd g cs o := by simp [vload, h]
end

def vmax : V → V → Option V
  | .int k a, .int _ b => some (.int k (if b > a then b else a))
  | _, _ => none
def vmin : V → V → Option V
  | .int k a, .int _ b => some (.int k (if b < a then b else a))
  | _, _ => none
def vpick : V → V → V → Option V
  | .bool t, a, b => some (if t then a else b)
  | _, _, _ => none
def veqB (neg : Bool) : V → V → Option V
  | .bool a, .bool b => some (.bool (if neg then !(a == b) else a == b))
  | _, _ => none
def veqA (neg : Bool) (ks : List CK) : V → V → Option V
  | .agg xs, .agg ys => match eqCells ks xs ys with
    | some b => some (.bool (if neg then !b else b))
    | none => none
  | _, _ => none
def vnew (b : Bool) (cs : List V) (L : Lo) (H : Hp) : Option VNext :=
  if b then some (.val (.lp L.length 0) (L ++ [cs]) H) else some (.val (.ptr H.length 0) L (H ++ [.row cs true]))
def vbuild (L : Lo) (H : Hp) : Option (List V) → Option VNext
  | some cs => some (.val (.agg cs) L H)
  | none => none
def vbslice (sz len : Nat) (L : Lo) (H : Hp) : Option (List V) → Option VNext
  | some cs => some (.val (.sl H.length 0 len sz) L (H ++ [.row cs true]))
  | none => none
/-- a row of so many elements, all zero -/
def vmks (sz bytes : Nat) (z : List V) (L : Lo) (H : Hp) : V → V → Option VNext
  | .int _ n, .int _ m => if n = m ∧ 0 ≤ n ∧ n.toNat * bytes ≤ 16777216 ∧ n ≤ 16777216 then some (.val (.sl H.length 0 n.toNat sz) L (H ++ [.row (rowOf n.toNat z) true])) else none
  | _, _ => none
def vst : Option (Lo × Hp) → Option VNext
  | some (L, H) => some (.val dv L H)
  | none => none
def vvh (L : Lo) : Option (V × Hp) → Option VNext
  | some (v, H) => some (.val v L H)
  | none => none
def vgo (b : Bool) (f : FuncId) (vs : List V) : Option VNext := if b then some (.call f vs) else none
section
variable {lim : Nat} {fr : Fr} {L : Lo} {H : Hp}
theorem evOp_move {x : Opd} : evOp lim fr L H (.move x) = some (.val (opd fr x) L H) := Eq.trans rfl rfl
theorem evOp_pick {c a b : Opd} : evOp lim fr L H (.pick c a b) = pureV L H (vpick (opd fr c) (opd fr a) (opd fr b)) := by
  simp only [evOp]; cases opd fr c <;> rfl
theorem evOp_new {b : Bool} {z : List V} : evOp lim fr L H (.new b z) = vnew b z L H := Eq.trans rfl rfl
theorem evOp_box {b : Bool} {x : Opd} : evOp lim fr L H (.box b x) = if stor (opd fr x) then vnew b (cellsV (opd fr x)) L H else none := Eq.trans rfl rfl
theorem evOp_build {z : List V} {ps : List (Nat × Nat × Opd)} : evOp lim fr L H (.build z ps) = vbuild L H (vfill z (opdP fr ps)) := by
  simp only [evOp]; cases vfill z (opdP fr ps) <;> rfl
theorem evOp_bslice {sz n : Nat} {z : List V} {ps : List (Nat × Nat × Opd)} : evOp lim fr L H (.bslice sz n z ps) = vbslice sz n L H (vfill z (opdP fr ps)) := by
  simp only [evOp]; cases vfill z (opdP fr ps) <;> rfl
theorem evOp_mks {sz b : Nat} {z : List V} {x y : Opd} : evOp lim fr L H (.mks sz b z x y) = vmks sz b z L H (opd fr x) (opd fr y) := by
  simp only [evOp]; cases opd fr x <;> cases opd fr y <;> rfl
theorem vmks_int {b : Nat} {n : Nat} (h : n * b ≤ 16777216 ∧ n ≤ 16777216) : vmks 1 b [.int .i64 0] L H (.int .i64 n) (.int .i64 n) = some (.val (.sl H.length 0 n 1) L (H ++ [.row (ints (zs n)) true])) := by
  have e : rowOf n [V.int .i64 0] = ints (zs n) := by simp [rowOf, zs, ints]
  have h2 : (n : Int) ≤ 16777216 := by omega
  simp [vmks, h.1, h2, e]
theorem evOp_load {g : Option Nat} {a : Opd} : evOp lim fr L H (.load g a) = pureV L H (vload g L H (opd fr a)) := Eq.trans rfl rfl
theorem evOp_store {n : Nat} {a x : Opd} : evOp lim fr L H (.store n a x) = vst (vstore lim L H (opd fr a) (opd fr x) n) := by
  simp only [evOp]; cases vstore lim L H (opd fr a) (opd fr x) n <;> rfl
theorem evOp_bin {op : BinOp} {x y : Opd} : evOp lim fr L H (.bin op x y) = pureV L H (vbin op (opd fr x) (opd fr y)) := Eq.trans rfl rfl
theorem evOp_eqB {n : Bool} {x y : Opd} : evOp lim fr L H (.eqB n x y) = pureV L H (veqB n (opd fr x) (opd fr y)) := by
  simp only [evOp]; cases opd fr x <;> cases opd fr y <;> rfl
theorem evOp_eqA {n : Bool} {ks : List CK} {x y : Opd} : evOp lim fr L H (.eqA n ks x y) = pureV L H (veqA n ks (opd fr x) (opd fr y)) := by
  simp only [evOp]
  cases opd fr x <;> cases opd fr y <;> first | rfl | (rename_i xs ys; simp only [veqA]; cases eqCells ks xs ys <;> rfl)
theorem evOp_un {op : UnOp} {x : Opd} : evOp lim fr L H (.un op x) = pureV L H (vun op (opd fr x)) := Eq.trans rfl rfl
theorem evOp_faddr {o : Nat} {x : Opd} : evOp lim fr L H (.faddr o x) = pureV L H (vfaddr o (opd fr x)) := Eq.trans rfl rfl
theorem evOp_iaddrA {n z : Nat} {x i : Opd} : evOp lim fr L H (.iaddrA n z x i) = pureV L H (viaddrA n z (opd fr x) (opd fr i)) := Eq.trans rfl rfl
theorem evOp_iaddrS {z : Nat} {x i : Opd} : evOp lim fr L H (.iaddrS z x i) = pureV L H (viaddrS z (opd fr x) (opd fr i)) := Eq.trans rfl rfl
theorem evOp_idxA {n z : Nat} {g : Option Nat} {x i : Opd} : evOp lim fr L H (.idxA n z g x i) = pureV L H (vidxA n z g (opd fr x) (opd fr i)) := Eq.trans rfl rfl
theorem evOp_idxT {x i : Opd} : evOp lim fr L H (.idxT x i) = pureV L H (vidxT (opd fr x) (opd fr i)) := Eq.trans rfl rfl
theorem evOp_field {n : Nat} {g : Option Nat} {x : Opd} : evOp lim fr L H (.field n g x) = pureV L H (vfield n g (opd fr x)) := Eq.trans rfl rfl
theorem evOp_extr {n : Nat} {x : Opd} : evOp lim fr L H (.ext x n) = pureV L H (vext n (opd fr x)) := Eq.trans rfl rfl
theorem evOp_conv {k : IntKind} {x : Opd} : evOp lim fr L H (.conv k x) = pureV L H (vconv k (opd fr x)) := Eq.trans rfl rfl
theorem evOp_slA {n z : Nat} {x : Opd} {lo hi : Option Opd} : evOp lim fr L H (.slA n z x lo hi) = pureV L H (vslA n z H (opd fr x) (opdO fr lo) (opdO fr hi)) := Eq.trans rfl rfl
theorem evOp_slS {z : Nat} {x : Opd} {lo hi : Option Opd} : evOp lim fr L H (.slS z x lo hi) = pureV L H (vslS z (opd fr x) (opdO fr lo) (opdO fr hi)) := Eq.trans rfl rfl
theorem evOp_slT {x : Opd} {lo hi : Option Opd} : evOp lim fr L H (.slT x lo hi) = pureV L H (vslT (opd fr x) (opdO fr lo) (opdO fr hi)) := Eq.trans rfl rfl
theorem evOp_call {f : FuncId} {xs : List Opd} : evOp lim fr L H (.call f xs) = vgo (allStor (opds fr xs)) f (opds fr xs) := Eq.trans rfl rfl
theorem evOp_lenS {x : Opd} : evOp lim fr L H (.lenS x) = pureV L H (vlenS (opd fr x)) := Eq.trans rfl rfl
theorem evOp_lenT {x : Opd} : evOp lim fr L H (.lenT x) = pureV L H (vlenT (opd fr x)) := Eq.trans rfl rfl
theorem evOp_lenA {n : Nat} : evOp lim fr L H (.lenA n) = some (.val (.int .i64 n) L H) := Eq.trans rfl rfl
theorem evOp_append {z b : Nat} {x y : Opd} : evOp lim fr L H (.append z b x y) = vvh L (vappend lim z b H (opd fr x) (opd fr y)) := by
  simp only [evOp]; cases vappend lim z b H (opd fr x) (opd fr y) <;> rfl
theorem evOp_copy {z : Nat} {x y : Opd} : evOp lim fr L H (.copy z x y) = vvh L (vcopy lim z H (opd fr x) (opd fr y)) := by
  simp only [evOp]; cases vcopy lim z H (opd fr x) (opd fr y) <;> rfl
theorem evOp_max2 {x y : Opd} : evOp lim fr L H (.max2 x y) = pureV L H (vmax (opd fr x) (opd fr y)) := by
  simp only [evOp]; cases opd fr x <;> cases opd fr y <;> rfl
theorem evOp_min2 {x y : Opd} : evOp lim fr L H (.min2 x y) = pureV L H (vmin (opd fr x) (opd fr y)) := by
  simp only [evOp]; cases opd fr x <;> cases opd fr y <;> rfl
def vgoV (b : Bool) : Option (FuncId × List V) → Option VNext
  | some (f, vs) => if b then some (.call f vs) else none
  | none => none
def vmkf (b : Bool) (f : FuncId) (fs cs : List V) (L : Lo) (H : Hp) : Option VNext := if b then some (.val (.func (.func f) fs cs) L H) else none
def vclrK (L : Lo) : Option Hp → Option VNext
  | some H => some (.val dv L H)
  | none => none
theorem evOp_max3 {x y z : Opd} : evOp lim fr L H (.max3 x y z) = pureV L H (vmax3 (opd fr x) (opd fr y) (opd fr z)) := Eq.trans rfl rfl
theorem evOp_min3 {x y z : Opd} : evOp lim fr L H (.min3 x y z) = pureV L H (vmin3 (opd fr x) (opd fr y) (opd fr z)) := Eq.trans rfl rfl
def vbytes (L : Lo) (H : Hp) : V → Option VNext
  | .str s => some (.val (.sl H.length 0 s.size 1) L (H ++ [.row (vbytesL s) true]))
  | _ => none
theorem evOp_bytes {x : Opd} : evOp lim fr L H (.bytes x) = vbytes L H (opd fr x) := Eq.trans rfl rfl
theorem vbytes_str {s : ByteArray} : vbytes L H (.str s) = some (.val (.sl H.length 0 s.size 1) L (H ++ [.row (vbytesL s) true])) := Eq.trans rfl rfl
theorem evOp_x {k : XOp} {xs : List Opd} : evOp lim fr L H (.x k xs) = vvh L (evX lim H k (opds fr xs)) := by
  simp only [evOp]; cases evX lim H k (opds fr xs) <;> rfl
theorem evX_mkm : evX lim H .mkm [] = some (.mp H.length, H ++ [.map []]) := Eq.trans rfl rfl
theorem evX_mget {g ok : Bool} {ks : List CK} {z x k : V} : evX lim H (.mget g ks ok z) [x, k] = optH H (vmget g ks ok z H x k) := Eq.trans rfl rfl
theorem evX_mput {g : Bool} {ks : List CK} {x k u : V} : evX lim H (.mput g ks) [x, k, u] = optV (vmput lim g ks H x k u) := Eq.trans rfl rfl
theorem evX_ment {g : Bool} {ks : List CK} {z x k : V} : evX lim H (.ment g ks z) [x, k] = vment lim g ks z H x k := Eq.trans rfl rfl
theorem evX_rgS {x : V} : evX lim H .rgS [x] = vrange H x := Eq.trans rfl rfl
theorem vrange_str {s : ByteArray} : vrange H (.str s) = some (.it H.length, H ++ [.sit s 0]) := Eq.trans rfl rfl
theorem evX_nxS {x : V} : evX lim H .nxS [x] = vnext lim H x := Eq.trans rfl rfl
theorem evX_strB {x : V} : evX lim H .strB [x] = optH H (vstrB H x) := Eq.trans rfl rfl
theorem evX_mkI {t : Nat} {x : V} : evX lim H (.mkI t) [x] = optH H (vmkI t x) := Eq.trans rfl rfl
theorem vmkI_def {t : Nat} {x : V} : vmkI t x = if stor x = true then some (.iface t x) else none := Eq.trans rfl rfl
theorem evX_ask {q : List V → List Blk → Bool} {vs : List V} : evX lim H (.ask q) vs = if q vs H = true then some (dv, H) else none := Eq.trans rfl rfl
theorem evX_unI {t : Nat} {x : V} : evX lim H (.unI t) [x] = optH H (vunI t x) := Eq.trans rfl rfl
theorem vunI_if {t t' : Nat} {v : V} : vunI t (.iface t' v) = if t' = t then some v else none := Eq.trans rfl rfl
theorem evX_inilT {n : Bool} {x : V} : evX lim H (.inilT n) [x] = optH H (vinilT n x) := Eq.trans rfl rfl
theorem evX_pnilT {n : Bool} {x : V} : evX lim H (.pnilT n) [x] = optH H (vpnilT n x) := Eq.trans rfl rfl
theorem vpnilT_nil {n : Bool} : vpnilT n .pnil = some (.bool (!n)) := Eq.trans rfl rfl
theorem vpnilT_ptr {n : Bool} {b o : Nat} : vpnilT n (.ptr b o) = some (.bool n) := Eq.trans rfl rfl
theorem vinilT_nil {n : Bool} : vinilT n .inil = some (.bool (!n)) := Eq.trans rfl rfl
theorem vinilT_if {n : Bool} {t : TypeId} {v : V} : vinilT n (.iface t v) = some (.bool n) := Eq.trans rfl rfl
theorem evX_strR {x : V} : evX lim H .strR [x] = optH H (vstrR x) := Eq.trans rfl rfl
theorem vstrR_int {k : IntKind} {n : Int} : vstrR (.int k n) = some (.str (Utf8.encode n)) := Eq.trans rfl rfl
theorem evX_wk {x : V} : evX lim H .wk [x] = optH H (vwk x) := Eq.trans rfl rfl
theorem evX_strRs {x : V} : evX lim H .strRs [x] = optH H (vstrRs H x) := Eq.trans rfl rfl
theorem evX_mest {x n u : V} : evX lim H .mest [x, n, u] = optV (vmest lim H x n u) := Eq.trans rfl rfl
theorem evX_lenM {x : V} : evX lim H .lenM [x] = optH H (vlenM H x) := Eq.trans rfl rfl
theorem evX_slC0 {z : Nat} {x : V} : evX lim H (.slC z false false) [x] = optH H (vslC z x none none) := Eq.trans rfl rfl
theorem evX_slC1 {z : Nat} {x l : V} : evX lim H (.slC z true false) [x, l] = optH H (vslC z x (some l) none) := Eq.trans rfl rfl
theorem evX_slC2 {z : Nat} {x h : V} : evX lim H (.slC z false true) [x, h] = optH H (vslC z x none (some h)) := Eq.trans rfl rfl
theorem evX_slC3 {z : Nat} {x l h : V} : evX lim H (.slC z true true) [x, l, h] = optH H (vslC z x (some l) (some h)) := Eq.trans rfl rfl
theorem evX_apc {wk : Bool} {z b : Nat} {x y : V} : evX lim H (.apc wk z b) [x, y] = vappC wk lim z b H x y := Eq.trans rfl rfl
theorem evX_bs0 : evX lim H .bs0 [] = some (.szero, H) := Eq.trans rfl rfl
theorem evX_ap0 {z b : Nat} {x y : V} : evX lim H (.ap0 z b) [x, y] = vapp0 z b H x y := Eq.trans rfl rfl
theorem evX_capN {x : V} : evX lim H .capN [x] = optH H (vcapN x) := Eq.trans rfl rfl
theorem evX_apz {z b : Nat} {zs : List V} {x n : V} : evX lim H (.apz z b zs) [x, n] = vappz z b zs H x n := Eq.trans rfl rfl
theorem evX_maxL {vs : List V} : evX lim H .maxL vs = optH H (vmaxL vs) := Eq.trans rfl rfl
theorem vmaxL_int {k : IntKind} {a b c d : Int} : vmaxL [.int k a, .int k b, .int k c, .int k d] = some (.int k (max (max (max a b) c) d)) := Eq.trans rfl rfl
theorem vcapN_nil : vcapN .snil = some (.int .i64 0) := Eq.trans rfl rfl
attribute [simp] evX_maxL vmaxL_int evX_bs0 evX_ap0 evX_capN evX_apz vcapN_nil
theorem optH_some {v : V} : optH H (some v) = some (v, H) := Eq.trans rfl rfl
theorem optV_some : optV (some H) = some (dv, H) := Eq.trans rfl rfl
theorem evOp_nilc {x : Opd} : evOp lim fr L H (.nilc x) = pureV L H (vnilc (opd fr x)) := Eq.trans rfl rfl
theorem evOp_mkf {f : FuncId} {fs cs : List Opd} : evOp lim fr L H (.mkf f fs cs) = vmkf (allStor (opds fr fs) && allStor (opds fr cs)) f (opds fr fs) (opds fr cs) L H := Eq.trans rfl rfl
theorem evOp_callV {x : Opd} {xs : List Opd} : evOp lim fr L H (.callV x xs) = vgoV (allStor (opds fr xs)) (vtarget (opd fr x) (opds fr xs)) := by
  simp only [evOp, vgoV]
  cases vtarget (opd fr x) (opds fr xs) <;> cases allStor (opds fr xs) <;> rfl
theorem evOp_clr {z : Nat} {zs : List V} {x : Opd} : evOp lim fr L H (.clr z zs x) = vclrK L (vclr lim z zs H (opd fr x)) := by
  simp only [evOp]; cases vclr lim z zs H (opd fr x) <;> rfl
theorem evOp_slS3 {z : Nat} {x m : Opd} {lo hi : Option Opd} : evOp lim fr L H (.slS3 z x lo hi m) = pureV L H (vslS3 z (opd fr x) (opdO fr lo) (opdO fr hi) (opd fr m)) := Eq.trans rfl rfl
theorem evOp_eqN {n : Bool} {x : Opd} : evOp lim fr L H (.eqN n x) = pureV L H (veqN n (opd fr x)) := Eq.trans rfl rfl
theorem vmax3_int {k : IntKind} {a b c : Int} : vmax3 (.int k a) (.int k b) (.int k c) = some (.int k (max (max a b) c)) := Eq.trans rfl rfl
theorem vmin3_int {k : IntKind} {a b c : Int} : vmin3 (.int k a) (.int k b) (.int k c) = some (.int k (min (min a b) c)) := Eq.trans rfl rfl
theorem vnilc_ptr {b o : Nat} : vnilc (.ptr b o) = some (.ptr b o) := Eq.trans rfl rfl
theorem vnilc_lp {b o : Nat} : vnilc (.lp b o) = some (.lp b o) := Eq.trans rfl rfl
theorem vnilc_func {f : FuncId} {fs cs : List V} : vnilc (.func (.func f) fs cs) = some (.func (.func f) fs cs) := Eq.trans rfl rfl
theorem vgoV_some {f : FuncId} {vs : List V} : vgoV true (some (f, vs)) = some (.call f vs) := Eq.trans rfl rfl
theorem vmkf_true {f : FuncId} {fs cs : List V} : vmkf true f fs cs L H = some (.val (.func (.func f) fs cs) L H) := Eq.trans rfl rfl
theorem vclrK_some : vclrK L (some H) = some (.val dv L H) := Eq.trans rfl rfl
theorem vtarget_func {f : FuncId} {fs cs xs : List V} : vtarget (.func (.func f) fs cs) xs = if f = 3999999 then none else some (f, fs ++ xs ++ cs) := Eq.trans rfl rfl
theorem vtarget_yl {b : Nat} {xs : List V} : vtarget (.yl b) xs = some (3999999, .yl b :: xs) := Eq.trans rfl rfl
theorem veqN_nil {n : Bool} : veqN n .snil = some (.bool (if n then false else true)) := by cases n <;> rfl
theorem veqN_sl {n : Bool} {b o l z : Nat} : veqN n (.sl b o l z) = some (.bool n) := by cases n <;> rfl
theorem veqN_empty {n : Bool} : veqN n .sempty = some (.bool n) := by cases n <;> rfl
theorem vnew_loc {cs : List V} : vnew true cs L H = some (.val (.lp L.length 0) (L ++ [cs]) H) := Eq.trans rfl rfl
theorem vnew_glob {cs : List V} : vnew false cs L H = some (.val (.ptr H.length 0) L (H ++ [.row cs true])) := Eq.trans rfl rfl
theorem vbuild_some {cs : List V} : vbuild L H (some cs) = some (.val (.agg cs) L H) := Eq.trans rfl rfl
theorem vbslice_some {sz n : Nat} {cs : List V} : vbslice sz n L H (some cs) = some (.val (.sl H.length 0 n sz) L (H ++ [.row cs true])) := Eq.trans rfl rfl
theorem vst_some {L : Lo} {H : Hp} : vst (some (L, H)) = some (.val dv L H) := Eq.trans rfl rfl
theorem vvh_some {L : Lo} {H : Hp} {v : V} : vvh L (some (v, H)) = some (.val v L H) := Eq.trans rfl rfl
theorem vgo_true {f : FuncId} {vs : List V} : vgo true f vs = some (.call f vs) := Eq.trans rfl rfl
theorem vpick_bool {t : Bool} {a b : V} : vpick (.bool t) a b = some (if t then a else b) := Eq.trans rfl rfl
theorem vpick_true {a b : V} : vpick (.bool true) a b = some a := Eq.trans rfl rfl
theorem vpick_false {a b : V} : vpick (.bool false) a b = some b := Eq.trans rfl rfl
theorem vif_true {v : V} : vif true v = v := Eq.trans rfl rfl
theorem vif_false {v : V} : vif false v = dv := Eq.trans rfl rfl
theorem bnot_true : bnot true = false := Eq.trans rfl rfl
theorem bnot_false : bnot false = true := Eq.trans rfl rfl
theorem vpick_orG {t b : Bool} : vpick (.bool t) (.bool true) (vif (bnot t) (.bool b)) = some (.bool (t || b)) := by cases t <;> rfl
theorem vpick_andG {t b : Bool} : vpick (.bool t) (vif t (.bool b)) (.bool false) = some (.bool (t && b)) := by cases t <;> rfl
theorem vpick_or {t : Bool} {b : Bool} : vpick (.bool t) (.bool true) (.bool b) = some (.bool (t || b)) := by cases t <;> rfl
theorem vpick_and {t : Bool} {b : Bool} : vpick (.bool t) (.bool b) (.bool false) = some (.bool (t && b)) := by cases t <;> rfl
theorem veqB_bool {a b : Bool} : veqB false (.bool a) (.bool b) = some (.bool (a == b)) := Eq.trans rfl rfl
theorem veqB_nbool {a b : Bool} : veqB true (.bool a) (.bool b) = some (.bool (!(a == b))) := Eq.trans rfl rfl
theorem vmax_int {k : IntKind} {a b : Int} : vmax (.int k a) (.int k b) = some (.int k (max a b)) := by
  simp only [vmax]; congr 2; split <;> omega
theorem vmin_int {k : IntKind} {a b : Int} : vmin (.int k a) (.int k b) = some (.int k (min a b)) := by
  simp only [vmin]; congr 2; split <;> omega
theorem vext_tup {n : Nat} {vs : List V} : vext n (.tup vs) = vs[n]? := Eq.trans rfl rfl
theorem vun_neg {k : IntKind} {n : Int} : vun .neg (.int k n) = some (.int k (k.wrap (0 - n))) := Eq.trans rfl rfl
theorem vun_not {b : Bool} : vun .not (.bool b) = some (.bool !b) := Eq.trans rfl rfl
theorem vlenS_nil : vlenS .snil = some (.int .i64 0) := Eq.trans rfl rfl
theorem vlenS_empty : vlenS .sempty = some (.int .i64 0) := Eq.trans rfl rfl
theorem vlenS_sl {b o n z : Nat} : vlenS (.sl b o n z) = some (.int .i64 n) := Eq.trans rfl rfl
theorem vlenS_slc {b o n z c : Nat} : vlenS (.slc b o n z c) = some (.int .i64 n) := Eq.trans rfl rfl
attribute [simp] vlenS_slc
theorem vfield_agg {n : Nat} {g : Option Nat} {cs : List V} : vfield n g (.agg cs) = rd g cs n := Eq.trans rfl rfl
theorem vidxA_in {n z : Nat} {g : Option Nat} {v : V} {k : IntKind} {i : Int} (h : 0 ≤ i ∧ i < n) : vidxA n z g v (.int k i) = vfield (i.toNat * z) g v := by simp [vidxA, vint, h]
theorem vconv_int {k k' : IntKind} {i : Int} : vconv k (.int k' i) = some (.int k (k.wrap i)) := Eq.trans rfl rfl
end

/-- a test -/
theorem cond_bool {T : Tbl} {lim : Nat} {b : Bool} {x y : VCode} {Q : VExit → St → Prop} {s : St} (ht : b = true → wCode T lim x Q s) (hf : b = false → wCode T lim y Q s) : wCond T lim (.bool b) x y Q s := by
  cases b
  · exact hf rfl
  · exact ht rfl

attribute [simp ↓] wOps_nil wOps_cons wHead_nil wHead_cons wCode_skip wCode_reg wCode_draw wCode_seq wCode_block wCode_scope wCode_exit wCode_ret wCode_cond
  seqQ_normal seqQ_exit seqQ_ret blockQ_normal blockQ_ret blockQ_eq blockQ_ne fnQ_normal fnQ_ret opsK_at headK_at callK_at wStep_true wStep_false wStepH_true wStepH_false wGuard_true wGuard_false wGuardH_true wGuardH_false
attribute [simp] wStep_guard wStepH_guard wGuard_val wGuardH_val vif_true vif_false bnot_true bnot_false vpick_orG vpick_andG
attribute [simp] wNext_val wNext_call wAcc_some wCond_true wCond_false wRes_some putD_none putD_some pureV_some
  vbin_add vbin_sub vbin_mul vbin_quo vbin_rem vbin_eql vbin_neq vbin_lss vbin_leq vbin_gtr vbin_geq vint_int vfaddr_lp vfaddr_ptr viaddrA_in viaddrS_in vload_lpO vload_ptrO rdO_some rdB_row
attribute [simp] evOp_move evOp_pick evOp_new evOp_box evOp_build evOp_bslice evOp_mks vmks_int evOp_load evOp_store evOp_bin evOp_eqB evOp_eqA evOp_un evOp_faddr evOp_iaddrA evOp_iaddrS evOp_idxA evOp_idxT evOp_field evOp_extr evOp_conv evOp_slA evOp_slS evOp_slT evOp_call evOp_lenS evOp_lenT evOp_lenA evOp_append evOp_copy evOp_max2 evOp_min2 vnew_loc vnew_glob vbuild_some vbslice_some vst_some vvh_some vgo_true vpick_true vpick_false vpick_or vpick_and veqB_bool veqB_nbool vmax_int vmin_int vext_tup vun_neg vun_not vlenS_nil vlenS_empty vlenS_sl vfield_agg vidxA_in vconv_int
theorem opd_t {fr : Fr} {n : Nat} : opd fr (.t n) = fr n := Eq.trans rfl rfl
theorem opd_c {fr : Fr} {v : V} : opd fr (.c v) = v := Eq.trans rfl rfl
theorem wanted_none {fr : Fr} : wanted fr none = true := Eq.trans rfl rfl
def vwant (want : Bool) : V → Bool
  | .bool b => b == want
  | _ => false
theorem wanted_some {fr : Fr} {s : Nat} {b : Bool} : wanted fr (some (s, b)) = vwant b (fr s) := Eq.trans rfl rfl
theorem vwant_true {b : Bool} : vwant true (.bool b) = b := by cases b <;> rfl
theorem vwant_false {b : Bool} : vwant false (.bool b) = bnot b := by cases b <;> rfl
attribute [simp] opd_t opd_c wanted_none wanted_some vwant_true vwant_false
attribute [simp] opds opdP opdO upd_at headAcc headOk accOk allStor vres resVs resV vstore vfill
theorem stor_bool {b : Bool} : stor (.bool b) = true := Eq.trans rfl rfl
theorem cellsV_bool {b : Bool} : cellsV (.bool b) = [.bool b] := Eq.trans rfl rfl
theorem stor_int {k : IntKind} {n : Int} : stor (.int k n) = true := Eq.trans rfl rfl
theorem cellsV_int {k : IntKind} {n : Int} : cellsV (.int k n) = [.int k n] := Eq.trans rfl rfl
theorem stor_str {x : ByteArray} : stor (.str x) = true := Eq.trans rfl rfl
theorem cellsV_str {x : ByteArray} : cellsV (.str x) = [.str x] := Eq.trans rfl rfl
theorem stor_pnil  : stor (.pnil) = true := Eq.trans rfl rfl
theorem cellsV_pnil  : cellsV (.pnil) = [.pnil] := Eq.trans rfl rfl
theorem stor_ptr {b o : Nat} : stor (.ptr b o) = true := Eq.trans rfl rfl
theorem cellsV_ptr {b o : Nat} : cellsV (.ptr b o) = [.ptr b o] := Eq.trans rfl rfl
theorem stor_snil  : stor (.snil) = true := Eq.trans rfl rfl
theorem cellsV_snil  : cellsV (.snil) = [.snil] := Eq.trans rfl rfl
theorem stor_sl {b o n z : Nat} : stor (.sl b o n z) = true := Eq.trans rfl rfl
theorem cellsV_sl {b o n z : Nat} : cellsV (.sl b o n z) = [.sl b o n z] := Eq.trans rfl rfl
theorem stor_sempty  : stor (.sempty) = true := Eq.trans rfl rfl
theorem cellsV_sempty  : cellsV (.sempty) = [.sempty] := Eq.trans rfl rfl
theorem stor_func {f : Fn} {x y : List V} : stor (.func f x y) = true := Eq.trans rfl rfl
theorem cellsV_func {f : Fn} {x y : List V} : cellsV (.func f x y) = [.func f x y] := Eq.trans rfl rfl
theorem stor_fnil  : stor (.fnil) = true := Eq.trans rfl rfl
theorem cellsV_fnil  : cellsV (.fnil) = [.fnil] := Eq.trans rfl rfl
theorem stor_iface {t : TypeId} {v : V} : stor (.iface t v) = true := Eq.trans rfl rfl
theorem cellsV_iface {t : TypeId} {v : V} : cellsV (.iface t v) = [.iface t v] := Eq.trans rfl rfl
theorem stor_inil  : stor (.inil) = true := Eq.trans rfl rfl
theorem cellsV_inil  : cellsV (.inil) = [.inil] := Eq.trans rfl rfl
theorem stor_agg {cs : List V} : stor (.agg cs) = true := Eq.trans rfl rfl
theorem cellsV_agg {cs : List V} : cellsV (.agg cs) = cs := Eq.trans rfl rfl
theorem stor_mp {b : Nat} : stor (.mp b) = true := Eq.trans rfl rfl
theorem stor_yl {b : Nat} : stor (.yl b) = true := Eq.trans rfl rfl
theorem cellsV_yl {b : Nat} : cellsV (.yl b) = [.yl b] := Eq.trans rfl rfl
theorem cellsV_mp {b : Nat} : cellsV (.mp b) = [.mp b] := Eq.trans rfl rfl
theorem stor_slc {b o n z c : Nat} : stor (.slc b o n z c) = true := Eq.trans rfl rfl
theorem cellsV_slc {b o n z c : Nat} : cellsV (.slc b o n z c) = [.slc b o n z c] := Eq.trans rfl rfl
theorem vweak_slc {b o n z c : Nat} : vweak (.slc b o n z c) = .sl b o n z := Eq.trans rfl rfl
theorem vweak_sl {b o n z : Nat} : vweak (.sl b o n z) = .sl b o n z := Eq.trans rfl rfl
theorem stor_szero : stor .szero = true := Eq.trans rfl rfl
theorem cellsV_szero : cellsV .szero = [.szero] := Eq.trans rfl rfl
attribute [simp] stor_szero cellsV_szero
theorem vweak_nil : vweak .snil = .snil := Eq.trans rfl rfl
theorem vweak_empty : vweak .sempty = .sempty := Eq.trans rfl rfl
theorem vweak_int {k : IntKind} {n : Int} : vweak (.int k n) = .int k n := Eq.trans rfl rfl
theorem vweak_bool {b : Bool} : vweak (.bool b) = .bool b := Eq.trans rfl rfl
attribute [simp] stor_mp cellsV_mp stor_slc cellsV_slc vweak_slc vweak_sl vweak_nil vweak_empty vweak_int vweak_bool
theorem stor_mnil : stor .mnil = true := Eq.trans rfl rfl
theorem cellsV_mnil : cellsV .mnil = [.mnil] := Eq.trans rfl rfl
attribute [simp] stor_yl cellsV_yl stor_mnil cellsV_mnil
attribute [simp] stor_bool cellsV_bool stor_int cellsV_int stor_str cellsV_str stor_pnil cellsV_pnil stor_ptr cellsV_ptr stor_snil cellsV_snil stor_sl cellsV_sl stor_sempty cellsV_sempty stor_func cellsV_func stor_fnil cellsV_fnil stor_iface cellsV_iface stor_inil cellsV_inil stor_agg cellsV_agg

theorem fr0_0 {a : V} {l : List V} : fr0 (a :: l) 0 = a := Eq.trans rfl rfl
theorem fr0_1 {a b : V} {l : List V} : fr0 (a :: b :: l) 1 = b := Eq.trans rfl rfl
theorem fr0_2 {a b c : V} {l : List V} : fr0 (a :: b :: c :: l) 2 = c := Eq.trans rfl rfl
theorem fr0_3 {a b c d : V} {l : List V} : fr0 (a :: b :: c :: d :: l) 3 = d := Eq.trans rfl rfl
theorem fr0_4 {a b c d e : V} {l : List V} : fr0 (a :: b :: c :: d :: e :: l) 4 = e := Eq.trans rfl rfl
attribute [simp] fr0_0 fr0_1 fr0_2 fr0_3 fr0_4

/-- which variable of the activation an address speaks of -/
def lpId : V → Option Nat
  | .lp id _ => some id
  | _ => none
section
variable {fr : Fr} {b : Bool} {n m : Nat} {zs : List V} {ps : List (Nat × Nat × Opd)} {x y z a : Opd} {op : BinOp} {uop : UnOp} {ks : List CK} {g : Option Nat} {k : IntKind} {lo hi : Option Opd} {f : FuncId} {xs : List Opd}
theorem memId_load : memId fr (.load g a) = lpId (opd fr a) := by
  simp only [memId]; cases opd fr a <;> rfl
theorem memId_store : memId fr (.store n a x) = lpId (opd fr a) := by
  simp only [memId]; cases opd fr a <;> rfl
theorem lpId_lp {i o : Nat} : lpId (.lp i o) = some i := Eq.trans rfl rfl
theorem lpId_ptr {i o : Nat} : lpId (.ptr i o) = none := Eq.trans rfl rfl
theorem memId_move : memId fr (.move x) = none := Eq.trans rfl rfl
theorem memId_pick : memId fr (.pick x y z) = none := Eq.trans rfl rfl
theorem memId_new : memId fr (.new b zs) = none := Eq.trans rfl rfl
theorem memId_box : memId fr (.box b x) = none := Eq.trans rfl rfl
theorem memId_build : memId fr (.build zs ps) = none := Eq.trans rfl rfl
theorem memId_bslice : memId fr (.bslice n m zs ps) = none := Eq.trans rfl rfl
theorem memId_mks : memId fr (.mks n m zs x y) = none := Eq.trans rfl rfl
theorem memId_bin : memId fr (.bin op x y) = none := Eq.trans rfl rfl
theorem memId_eqB : memId fr (.eqB b x y) = none := Eq.trans rfl rfl
theorem memId_eqA : memId fr (.eqA b ks x y) = none := Eq.trans rfl rfl
theorem memId_un : memId fr (.un uop x) = none := Eq.trans rfl rfl
theorem memId_faddr : memId fr (.faddr n x) = none := Eq.trans rfl rfl
theorem memId_iaddrA : memId fr (.iaddrA n m x y) = none := Eq.trans rfl rfl
theorem memId_iaddrS : memId fr (.iaddrS n x y) = none := Eq.trans rfl rfl
theorem memId_idxA : memId fr (.idxA n m g x y) = none := Eq.trans rfl rfl
theorem memId_idxT : memId fr (.idxT x y) = none := Eq.trans rfl rfl
theorem memId_field : memId fr (.field n g x) = none := Eq.trans rfl rfl
theorem memId_ext : memId fr (.ext x n) = none := Eq.trans rfl rfl
theorem memId_conv : memId fr (.conv k x) = none := Eq.trans rfl rfl
theorem memId_slA : memId fr (.slA n m x lo hi) = none := Eq.trans rfl rfl
theorem memId_slS : memId fr (.slS n x lo hi) = none := Eq.trans rfl rfl
theorem memId_slT : memId fr (.slT x lo hi) = none := Eq.trans rfl rfl
theorem memId_call : memId fr (.call f xs) = none := Eq.trans rfl rfl
theorem memId_lenS : memId fr (.lenS x) = none := Eq.trans rfl rfl
theorem memId_lenT : memId fr (.lenT x) = none := Eq.trans rfl rfl
theorem memId_lenA : memId fr (.lenA n) = none := Eq.trans rfl rfl
theorem memId_append : memId fr (.append n m x y) = none := Eq.trans rfl rfl
theorem memId_copy : memId fr (.copy n x y) = none := Eq.trans rfl rfl
theorem memId_max3 : memId fr (.max3 x y z) = none := Eq.trans rfl rfl
theorem memId_min3 : memId fr (.min3 x y z) = none := Eq.trans rfl rfl
theorem memId_nilc : memId fr (.nilc x) = none := Eq.trans rfl rfl
theorem memId_mkf {ys : List Opd} : memId fr (.mkf f xs ys) = none := Eq.trans rfl rfl
theorem memId_callV : memId fr (.callV x xs) = none := Eq.trans rfl rfl
theorem memId_clr : memId fr (.clr n zs x) = none := Eq.trans rfl rfl
theorem memId_slS3 : memId fr (.slS3 n x lo hi y) = none := Eq.trans rfl rfl
theorem memId_eqN : memId fr (.eqN b x) = none := Eq.trans rfl rfl
theorem memId_bytes : memId fr (.bytes x) = none := Eq.trans rfl rfl
theorem memId_x {kx : XOp} : memId fr (.x kx xs) = none := Eq.trans rfl rfl
attribute [simp] memId_x
theorem memId_max2 : memId fr (.max2 x y) = none := Eq.trans rfl rfl
theorem memId_min2 : memId fr (.min2 x y) = none := Eq.trans rfl rfl
end
attribute [simp] evX_pnilT vpnilT_nil vpnilT_ptr evX_unI vunI_if evX_mkI vmkI_def evX_inilT vinilT_nil vinilT_if evX_wk evX_rgS vrange_str evX_nxS evX_strB evX_strR vstrR_int evX_strRs evX_ment evX_mest evOp_x evX_mkm evX_mget evX_mput evX_lenM evX_slC0 evX_slC1 evX_slC2 evX_slC3 evX_apc optH_some optV_some xwrite xfree
attribute [simp] vtarget_yl
attribute [simp] evOp_bytes vbytes_str evOp_max3 evOp_min3 evOp_nilc evOp_mkf evOp_callV evOp_clr evOp_slS3 evOp_eqN vmax3_int vmin3_int vnilc_ptr vnilc_lp vnilc_func vgoV_some vmkf_true vclrK_some vtarget_func veqN_nil veqN_sl veqN_empty memId_max3 memId_min3 memId_nilc memId_mkf memId_callV memId_clr memId_slS3 memId_eqN memId_bytes
attribute [simp] memId_load memId_store lpId_lp lpId_ptr memId_move memId_pick memId_new memId_box memId_build memId_bslice memId_mks memId_bin memId_eqB memId_eqA memId_un memId_faddr memId_iaddrA memId_iaddrS memId_idxA memId_idxT memId_field memId_ext memId_conv memId_slA memId_slS memId_slT memId_call memId_lenS memId_lenT memId_lenA memId_append memId_copy memId_max2 memId_min2
theorem get_0 {α : Type} {a : α} {l : List α} : (a :: l)[0]? = some a := Eq.trans rfl rfl
theorem get_1 {α : Type} {a b : α} {l : List α} : (a :: b :: l)[1]? = some b := Eq.trans rfl rfl
theorem get_2 {α : Type} {a b c : α} {l : List α} : (a :: b :: c :: l)[2]? = some c := Eq.trans rfl rfl
theorem get_3 {α : Type} {a b c d : α} {l : List α} : (a :: b :: c :: d :: l)[3]? = some d := Eq.trans rfl rfl
theorem get_4 {α : Type} {a b c d e : α} {l : List α} : (a :: b :: c :: d :: e :: l)[4]? = some e := Eq.trans rfl rfl
theorem get_5 {α : Type} {a b c d e f : α} {l : List α} : (a :: b :: c :: d :: e :: f :: l)[5]? = some f := Eq.trans rfl rfl
theorem get_6 {α : Type} {a b c d e f g : α} {l : List α} : (a :: b :: c :: d :: e :: f :: g :: l)[6]? = some g := Eq.trans rfl rfl
attribute [simp ↓] get_0 get_1 get_2 get_3 get_4 get_5 get_6
section
variable {T : Tbl} {lim : Nat} {b c neg : Bool} {d : Option Nat} {rest : List VOper} {K : St → Prop} {fr : Fr} {L : Lo} {H : Hp} {x y v : V} {op : BinOp} {uop : UnOp} {o n z kk : Nat} {g : Option Nat} {k : IntKind} {ks : List CK} {acc : List (Nat × Nat)}
theorem vif_vif : vif b (vif b v) = vif b v := by cases b <;> rfl
theorem vif_and : vif (b && c) (vif b v) = vif (b && c) v := by cases b <;> rfl
theorem vwant_vifT : vwant true (vif b (.bool c)) = (b && c) := by cases b <;> cases c <;> rfl
theorem vwant_vifF : vwant false (vif b (.bool c)) = (b && bnot c) := by cases b <;> cases c <;> rfl
theorem vpick_orG2 : vpick (.bool b) (.bool true) (vif (bnot b) (vif (bnot b) (.bool c))) = some (.bool (b || c)) := by cases b <;> rfl
theorem wG_0_0 : wGuard T lim b d (pureV L H (vbin op (vif b v) y)) rest K fr L H = wGuard T lim b d (pureV L H (vbin op v y)) rest K fr L H := by cases b <;> rfl
theorem wGH_0_0 : wGuardH T kk b d (pureV L H (vbin op (vif b v) y)) rest acc K fr L H = wGuardH T kk b d (pureV L H (vbin op v y)) rest acc K fr L H := by cases b <;> rfl
theorem wG_0_1 : wGuard T lim (b && c) d (pureV L H (vbin op (vif b v) y)) rest K fr L H = wGuard T lim (b && c) d (pureV L H (vbin op v y)) rest K fr L H := by cases b <;> rfl
theorem wGH_0_1 : wGuardH T kk (b && c) d (pureV L H (vbin op (vif b v) y)) rest acc K fr L H = wGuardH T kk (b && c) d (pureV L H (vbin op v y)) rest acc K fr L H := by cases b <;> rfl
theorem wG_1_0 : wGuard T lim b d (pureV L H (vbin op x (vif b v))) rest K fr L H = wGuard T lim b d (pureV L H (vbin op x v)) rest K fr L H := by cases b <;> rfl
theorem wGH_1_0 : wGuardH T kk b d (pureV L H (vbin op x (vif b v))) rest acc K fr L H = wGuardH T kk b d (pureV L H (vbin op x v)) rest acc K fr L H := by cases b <;> rfl
theorem wG_1_1 : wGuard T lim (b && c) d (pureV L H (vbin op x (vif b v))) rest K fr L H = wGuard T lim (b && c) d (pureV L H (vbin op x v)) rest K fr L H := by cases b <;> rfl
theorem wGH_1_1 : wGuardH T kk (b && c) d (pureV L H (vbin op x (vif b v))) rest acc K fr L H = wGuardH T kk (b && c) d (pureV L H (vbin op x v)) rest acc K fr L H := by cases b <;> rfl
theorem wG_2_0 : wGuard T lim b d (pureV L H (vun uop (vif b v))) rest K fr L H = wGuard T lim b d (pureV L H (vun uop v)) rest K fr L H := by cases b <;> rfl
theorem wGH_2_0 : wGuardH T kk b d (pureV L H (vun uop (vif b v))) rest acc K fr L H = wGuardH T kk b d (pureV L H (vun uop v)) rest acc K fr L H := by cases b <;> rfl
theorem wG_2_1 : wGuard T lim (b && c) d (pureV L H (vun uop (vif b v))) rest K fr L H = wGuard T lim (b && c) d (pureV L H (vun uop v)) rest K fr L H := by cases b <;> rfl
theorem wGH_2_1 : wGuardH T kk (b && c) d (pureV L H (vun uop (vif b v))) rest acc K fr L H = wGuardH T kk (b && c) d (pureV L H (vun uop v)) rest acc K fr L H := by cases b <;> rfl
theorem wG_3_0 : wGuard T lim b d (pureV L H (vfaddr o (vif b v))) rest K fr L H = wGuard T lim b d (pureV L H (vfaddr o v)) rest K fr L H := by cases b <;> rfl
theorem wGH_3_0 : wGuardH T kk b d (pureV L H (vfaddr o (vif b v))) rest acc K fr L H = wGuardH T kk b d (pureV L H (vfaddr o v)) rest acc K fr L H := by cases b <;> rfl
theorem wG_3_1 : wGuard T lim (b && c) d (pureV L H (vfaddr o (vif b v))) rest K fr L H = wGuard T lim (b && c) d (pureV L H (vfaddr o v)) rest K fr L H := by cases b <;> rfl
theorem wGH_3_1 : wGuardH T kk (b && c) d (pureV L H (vfaddr o (vif b v))) rest acc K fr L H = wGuardH T kk (b && c) d (pureV L H (vfaddr o v)) rest acc K fr L H := by cases b <;> rfl
theorem wG_4_0 : wGuard T lim b d (pureV L H (viaddrA n z (vif b v) y)) rest K fr L H = wGuard T lim b d (pureV L H (viaddrA n z v y)) rest K fr L H := by cases b <;> rfl
theorem wGH_4_0 : wGuardH T kk b d (pureV L H (viaddrA n z (vif b v) y)) rest acc K fr L H = wGuardH T kk b d (pureV L H (viaddrA n z v y)) rest acc K fr L H := by cases b <;> rfl
theorem wG_4_1 : wGuard T lim (b && c) d (pureV L H (viaddrA n z (vif b v) y)) rest K fr L H = wGuard T lim (b && c) d (pureV L H (viaddrA n z v y)) rest K fr L H := by cases b <;> rfl
theorem wGH_4_1 : wGuardH T kk (b && c) d (pureV L H (viaddrA n z (vif b v) y)) rest acc K fr L H = wGuardH T kk (b && c) d (pureV L H (viaddrA n z v y)) rest acc K fr L H := by cases b <;> rfl
theorem wG_5_0 : wGuard T lim b d (pureV L H (viaddrA n z x (vif b v))) rest K fr L H = wGuard T lim b d (pureV L H (viaddrA n z x v)) rest K fr L H := by cases b <;> rfl
theorem wGH_5_0 : wGuardH T kk b d (pureV L H (viaddrA n z x (vif b v))) rest acc K fr L H = wGuardH T kk b d (pureV L H (viaddrA n z x v)) rest acc K fr L H := by cases b <;> rfl
theorem wG_5_1 : wGuard T lim (b && c) d (pureV L H (viaddrA n z x (vif b v))) rest K fr L H = wGuard T lim (b && c) d (pureV L H (viaddrA n z x v)) rest K fr L H := by cases b <;> rfl
theorem wGH_5_1 : wGuardH T kk (b && c) d (pureV L H (viaddrA n z x (vif b v))) rest acc K fr L H = wGuardH T kk (b && c) d (pureV L H (viaddrA n z x v)) rest acc K fr L H := by cases b <;> rfl
theorem wG_6_0 : wGuard T lim b d (pureV L H (viaddrS z (vif b v) y)) rest K fr L H = wGuard T lim b d (pureV L H (viaddrS z v y)) rest K fr L H := by cases b <;> rfl
theorem wGH_6_0 : wGuardH T kk b d (pureV L H (viaddrS z (vif b v) y)) rest acc K fr L H = wGuardH T kk b d (pureV L H (viaddrS z v y)) rest acc K fr L H := by cases b <;> rfl
theorem wG_6_1 : wGuard T lim (b && c) d (pureV L H (viaddrS z (vif b v) y)) rest K fr L H = wGuard T lim (b && c) d (pureV L H (viaddrS z v y)) rest K fr L H := by cases b <;> rfl
theorem wGH_6_1 : wGuardH T kk (b && c) d (pureV L H (viaddrS z (vif b v) y)) rest acc K fr L H = wGuardH T kk (b && c) d (pureV L H (viaddrS z v y)) rest acc K fr L H := by cases b <;> rfl
theorem wG_7_0 : wGuard T lim b d (pureV L H (viaddrS z x (vif b v))) rest K fr L H = wGuard T lim b d (pureV L H (viaddrS z x v)) rest K fr L H := by cases b <;> rfl
theorem wGH_7_0 : wGuardH T kk b d (pureV L H (viaddrS z x (vif b v))) rest acc K fr L H = wGuardH T kk b d (pureV L H (viaddrS z x v)) rest acc K fr L H := by cases b <;> rfl
theorem wG_7_1 : wGuard T lim (b && c) d (pureV L H (viaddrS z x (vif b v))) rest K fr L H = wGuard T lim (b && c) d (pureV L H (viaddrS z x v)) rest K fr L H := by cases b <;> rfl
theorem wGH_7_1 : wGuardH T kk (b && c) d (pureV L H (viaddrS z x (vif b v))) rest acc K fr L H = wGuardH T kk (b && c) d (pureV L H (viaddrS z x v)) rest acc K fr L H := by cases b <;> rfl
theorem wG_8_0 : wGuard T lim b d (pureV L H (vload g L H (vif b v))) rest K fr L H = wGuard T lim b d (pureV L H (vload g L H v)) rest K fr L H := by cases b <;> rfl
theorem wGH_8_0 : wGuardH T kk b d (pureV L H (vload g L H (vif b v))) rest acc K fr L H = wGuardH T kk b d (pureV L H (vload g L H v)) rest acc K fr L H := by cases b <;> rfl
theorem wG_8_1 : wGuard T lim (b && c) d (pureV L H (vload g L H (vif b v))) rest K fr L H = wGuard T lim (b && c) d (pureV L H (vload g L H v)) rest K fr L H := by cases b <;> rfl
theorem wGH_8_1 : wGuardH T kk (b && c) d (pureV L H (vload g L H (vif b v))) rest acc K fr L H = wGuardH T kk (b && c) d (pureV L H (vload g L H v)) rest acc K fr L H := by cases b <;> rfl
theorem wG_9_0 : wGuard T lim b d (pureV L H (vidxA n z g (vif b v) y)) rest K fr L H = wGuard T lim b d (pureV L H (vidxA n z g v y)) rest K fr L H := by cases b <;> rfl
theorem wGH_9_0 : wGuardH T kk b d (pureV L H (vidxA n z g (vif b v) y)) rest acc K fr L H = wGuardH T kk b d (pureV L H (vidxA n z g v y)) rest acc K fr L H := by cases b <;> rfl
theorem wG_9_1 : wGuard T lim (b && c) d (pureV L H (vidxA n z g (vif b v) y)) rest K fr L H = wGuard T lim (b && c) d (pureV L H (vidxA n z g v y)) rest K fr L H := by cases b <;> rfl
theorem wGH_9_1 : wGuardH T kk (b && c) d (pureV L H (vidxA n z g (vif b v) y)) rest acc K fr L H = wGuardH T kk (b && c) d (pureV L H (vidxA n z g v y)) rest acc K fr L H := by cases b <;> rfl
theorem wG_10_0 : wGuard T lim b d (pureV L H (vidxA n z g x (vif b v))) rest K fr L H = wGuard T lim b d (pureV L H (vidxA n z g x v)) rest K fr L H := by cases b <;> rfl
theorem wGH_10_0 : wGuardH T kk b d (pureV L H (vidxA n z g x (vif b v))) rest acc K fr L H = wGuardH T kk b d (pureV L H (vidxA n z g x v)) rest acc K fr L H := by cases b <;> rfl
theorem wG_10_1 : wGuard T lim (b && c) d (pureV L H (vidxA n z g x (vif b v))) rest K fr L H = wGuard T lim (b && c) d (pureV L H (vidxA n z g x v)) rest K fr L H := by cases b <;> rfl
theorem wGH_10_1 : wGuardH T kk (b && c) d (pureV L H (vidxA n z g x (vif b v))) rest acc K fr L H = wGuardH T kk (b && c) d (pureV L H (vidxA n z g x v)) rest acc K fr L H := by cases b <;> rfl
theorem wG_11_0 : wGuard T lim b d (pureV L H (vidxT (vif b v) y)) rest K fr L H = wGuard T lim b d (pureV L H (vidxT v y)) rest K fr L H := by cases b <;> rfl
theorem wGH_11_0 : wGuardH T kk b d (pureV L H (vidxT (vif b v) y)) rest acc K fr L H = wGuardH T kk b d (pureV L H (vidxT v y)) rest acc K fr L H := by cases b <;> rfl
theorem wG_11_1 : wGuard T lim (b && c) d (pureV L H (vidxT (vif b v) y)) rest K fr L H = wGuard T lim (b && c) d (pureV L H (vidxT v y)) rest K fr L H := by cases b <;> rfl
theorem wGH_11_1 : wGuardH T kk (b && c) d (pureV L H (vidxT (vif b v) y)) rest acc K fr L H = wGuardH T kk (b && c) d (pureV L H (vidxT v y)) rest acc K fr L H := by cases b <;> rfl
theorem wG_12_0 : wGuard T lim b d (pureV L H (vidxT x (vif b v))) rest K fr L H = wGuard T lim b d (pureV L H (vidxT x v)) rest K fr L H := by cases b <;> rfl
theorem wGH_12_0 : wGuardH T kk b d (pureV L H (vidxT x (vif b v))) rest acc K fr L H = wGuardH T kk b d (pureV L H (vidxT x v)) rest acc K fr L H := by cases b <;> rfl
theorem wG_12_1 : wGuard T lim (b && c) d (pureV L H (vidxT x (vif b v))) rest K fr L H = wGuard T lim (b && c) d (pureV L H (vidxT x v)) rest K fr L H := by cases b <;> rfl
theorem wGH_12_1 : wGuardH T kk (b && c) d (pureV L H (vidxT x (vif b v))) rest acc K fr L H = wGuardH T kk (b && c) d (pureV L H (vidxT x v)) rest acc K fr L H := by cases b <;> rfl
theorem wG_13_0 : wGuard T lim b d (pureV L H (vfield n g (vif b v))) rest K fr L H = wGuard T lim b d (pureV L H (vfield n g v)) rest K fr L H := by cases b <;> rfl
theorem wGH_13_0 : wGuardH T kk b d (pureV L H (vfield n g (vif b v))) rest acc K fr L H = wGuardH T kk b d (pureV L H (vfield n g v)) rest acc K fr L H := by cases b <;> rfl
theorem wG_13_1 : wGuard T lim (b && c) d (pureV L H (vfield n g (vif b v))) rest K fr L H = wGuard T lim (b && c) d (pureV L H (vfield n g v)) rest K fr L H := by cases b <;> rfl
theorem wGH_13_1 : wGuardH T kk (b && c) d (pureV L H (vfield n g (vif b v))) rest acc K fr L H = wGuardH T kk (b && c) d (pureV L H (vfield n g v)) rest acc K fr L H := by cases b <;> rfl
theorem wG_14_0 : wGuard T lim b d (pureV L H (vext n (vif b v))) rest K fr L H = wGuard T lim b d (pureV L H (vext n v)) rest K fr L H := by cases b <;> rfl
theorem wGH_14_0 : wGuardH T kk b d (pureV L H (vext n (vif b v))) rest acc K fr L H = wGuardH T kk b d (pureV L H (vext n v)) rest acc K fr L H := by cases b <;> rfl
theorem wG_14_1 : wGuard T lim (b && c) d (pureV L H (vext n (vif b v))) rest K fr L H = wGuard T lim (b && c) d (pureV L H (vext n v)) rest K fr L H := by cases b <;> rfl
theorem wGH_14_1 : wGuardH T kk (b && c) d (pureV L H (vext n (vif b v))) rest acc K fr L H = wGuardH T kk (b && c) d (pureV L H (vext n v)) rest acc K fr L H := by cases b <;> rfl
theorem wG_15_0 : wGuard T lim b d (pureV L H (vconv k (vif b v))) rest K fr L H = wGuard T lim b d (pureV L H (vconv k v)) rest K fr L H := by cases b <;> rfl
theorem wGH_15_0 : wGuardH T kk b d (pureV L H (vconv k (vif b v))) rest acc K fr L H = wGuardH T kk b d (pureV L H (vconv k v)) rest acc K fr L H := by cases b <;> rfl
theorem wG_15_1 : wGuard T lim (b && c) d (pureV L H (vconv k (vif b v))) rest K fr L H = wGuard T lim (b && c) d (pureV L H (vconv k v)) rest K fr L H := by cases b <;> rfl
theorem wGH_15_1 : wGuardH T kk (b && c) d (pureV L H (vconv k (vif b v))) rest acc K fr L H = wGuardH T kk (b && c) d (pureV L H (vconv k v)) rest acc K fr L H := by cases b <;> rfl
theorem wG_16_0 : wGuard T lim b d (pureV L H (vlenS (vif b v))) rest K fr L H = wGuard T lim b d (pureV L H (vlenS v)) rest K fr L H := by cases b <;> rfl
theorem wGH_16_0 : wGuardH T kk b d (pureV L H (vlenS (vif b v))) rest acc K fr L H = wGuardH T kk b d (pureV L H (vlenS v)) rest acc K fr L H := by cases b <;> rfl
theorem wG_16_1 : wGuard T lim (b && c) d (pureV L H (vlenS (vif b v))) rest K fr L H = wGuard T lim (b && c) d (pureV L H (vlenS v)) rest K fr L H := by cases b <;> rfl
theorem wGH_16_1 : wGuardH T kk (b && c) d (pureV L H (vlenS (vif b v))) rest acc K fr L H = wGuardH T kk (b && c) d (pureV L H (vlenS v)) rest acc K fr L H := by cases b <;> rfl
theorem wG_17_0 : wGuard T lim b d (pureV L H (vlenT (vif b v))) rest K fr L H = wGuard T lim b d (pureV L H (vlenT v)) rest K fr L H := by cases b <;> rfl
theorem wGH_17_0 : wGuardH T kk b d (pureV L H (vlenT (vif b v))) rest acc K fr L H = wGuardH T kk b d (pureV L H (vlenT v)) rest acc K fr L H := by cases b <;> rfl
theorem wG_17_1 : wGuard T lim (b && c) d (pureV L H (vlenT (vif b v))) rest K fr L H = wGuard T lim (b && c) d (pureV L H (vlenT v)) rest K fr L H := by cases b <;> rfl
theorem wGH_17_1 : wGuardH T kk (b && c) d (pureV L H (vlenT (vif b v))) rest acc K fr L H = wGuardH T kk (b && c) d (pureV L H (vlenT v)) rest acc K fr L H := by cases b <;> rfl
theorem wG_18_0 : wGuard T lim b d (pureV L H (vmax (vif b v) y)) rest K fr L H = wGuard T lim b d (pureV L H (vmax v y)) rest K fr L H := by cases b <;> rfl
theorem wGH_18_0 : wGuardH T kk b d (pureV L H (vmax (vif b v) y)) rest acc K fr L H = wGuardH T kk b d (pureV L H (vmax v y)) rest acc K fr L H := by cases b <;> rfl
theorem wG_18_1 : wGuard T lim (b && c) d (pureV L H (vmax (vif b v) y)) rest K fr L H = wGuard T lim (b && c) d (pureV L H (vmax v y)) rest K fr L H := by cases b <;> rfl
theorem wGH_18_1 : wGuardH T kk (b && c) d (pureV L H (vmax (vif b v) y)) rest acc K fr L H = wGuardH T kk (b && c) d (pureV L H (vmax v y)) rest acc K fr L H := by cases b <;> rfl
theorem wG_19_0 : wGuard T lim b d (pureV L H (vmax x (vif b v))) rest K fr L H = wGuard T lim b d (pureV L H (vmax x v)) rest K fr L H := by cases b <;> rfl
theorem wGH_19_0 : wGuardH T kk b d (pureV L H (vmax x (vif b v))) rest acc K fr L H = wGuardH T kk b d (pureV L H (vmax x v)) rest acc K fr L H := by cases b <;> rfl
theorem wG_19_1 : wGuard T lim (b && c) d (pureV L H (vmax x (vif b v))) rest K fr L H = wGuard T lim (b && c) d (pureV L H (vmax x v)) rest K fr L H := by cases b <;> rfl
theorem wGH_19_1 : wGuardH T kk (b && c) d (pureV L H (vmax x (vif b v))) rest acc K fr L H = wGuardH T kk (b && c) d (pureV L H (vmax x v)) rest acc K fr L H := by cases b <;> rfl
theorem wG_20_0 : wGuard T lim b d (pureV L H (vmin (vif b v) y)) rest K fr L H = wGuard T lim b d (pureV L H (vmin v y)) rest K fr L H := by cases b <;> rfl
theorem wGH_20_0 : wGuardH T kk b d (pureV L H (vmin (vif b v) y)) rest acc K fr L H = wGuardH T kk b d (pureV L H (vmin v y)) rest acc K fr L H := by cases b <;> rfl
theorem wG_20_1 : wGuard T lim (b && c) d (pureV L H (vmin (vif b v) y)) rest K fr L H = wGuard T lim (b && c) d (pureV L H (vmin v y)) rest K fr L H := by cases b <;> rfl
theorem wGH_20_1 : wGuardH T kk (b && c) d (pureV L H (vmin (vif b v) y)) rest acc K fr L H = wGuardH T kk (b && c) d (pureV L H (vmin v y)) rest acc K fr L H := by cases b <;> rfl
theorem wG_21_0 : wGuard T lim b d (pureV L H (vmin x (vif b v))) rest K fr L H = wGuard T lim b d (pureV L H (vmin x v)) rest K fr L H := by cases b <;> rfl
theorem wGH_21_0 : wGuardH T kk b d (pureV L H (vmin x (vif b v))) rest acc K fr L H = wGuardH T kk b d (pureV L H (vmin x v)) rest acc K fr L H := by cases b <;> rfl
theorem wG_21_1 : wGuard T lim (b && c) d (pureV L H (vmin x (vif b v))) rest K fr L H = wGuard T lim (b && c) d (pureV L H (vmin x v)) rest K fr L H := by cases b <;> rfl
theorem wGH_21_1 : wGuardH T kk (b && c) d (pureV L H (vmin x (vif b v))) rest acc K fr L H = wGuardH T kk (b && c) d (pureV L H (vmin x v)) rest acc K fr L H := by cases b <;> rfl
theorem wG_22_0 : wGuard T lim b d (pureV L H (veqB neg (vif b v) y)) rest K fr L H = wGuard T lim b d (pureV L H (veqB neg v y)) rest K fr L H := by cases b <;> rfl
theorem wGH_22_0 : wGuardH T kk b d (pureV L H (veqB neg (vif b v) y)) rest acc K fr L H = wGuardH T kk b d (pureV L H (veqB neg v y)) rest acc K fr L H := by cases b <;> rfl
theorem wG_22_1 : wGuard T lim (b && c) d (pureV L H (veqB neg (vif b v) y)) rest K fr L H = wGuard T lim (b && c) d (pureV L H (veqB neg v y)) rest K fr L H := by cases b <;> rfl
theorem wGH_22_1 : wGuardH T kk (b && c) d (pureV L H (veqB neg (vif b v) y)) rest acc K fr L H = wGuardH T kk (b && c) d (pureV L H (veqB neg v y)) rest acc K fr L H := by cases b <;> rfl
theorem wG_23_0 : wGuard T lim b d (pureV L H (veqB neg x (vif b v))) rest K fr L H = wGuard T lim b d (pureV L H (veqB neg x v)) rest K fr L H := by cases b <;> rfl
theorem wGH_23_0 : wGuardH T kk b d (pureV L H (veqB neg x (vif b v))) rest acc K fr L H = wGuardH T kk b d (pureV L H (veqB neg x v)) rest acc K fr L H := by cases b <;> rfl
theorem wG_23_1 : wGuard T lim (b && c) d (pureV L H (veqB neg x (vif b v))) rest K fr L H = wGuard T lim (b && c) d (pureV L H (veqB neg x v)) rest K fr L H := by cases b <;> rfl
theorem wGH_23_1 : wGuardH T kk (b && c) d (pureV L H (veqB neg x (vif b v))) rest acc K fr L H = wGuardH T kk (b && c) d (pureV L H (veqB neg x v)) rest acc K fr L H := by cases b <;> rfl
theorem wG_24_0 : wGuard T lim b d (pureV L H (veqA neg ks (vif b v) y)) rest K fr L H = wGuard T lim b d (pureV L H (veqA neg ks v y)) rest K fr L H := by cases b <;> rfl
theorem wGH_24_0 : wGuardH T kk b d (pureV L H (veqA neg ks (vif b v) y)) rest acc K fr L H = wGuardH T kk b d (pureV L H (veqA neg ks v y)) rest acc K fr L H := by cases b <;> rfl
theorem wG_24_1 : wGuard T lim (b && c) d (pureV L H (veqA neg ks (vif b v) y)) rest K fr L H = wGuard T lim (b && c) d (pureV L H (veqA neg ks v y)) rest K fr L H := by cases b <;> rfl
theorem wGH_24_1 : wGuardH T kk (b && c) d (pureV L H (veqA neg ks (vif b v) y)) rest acc K fr L H = wGuardH T kk (b && c) d (pureV L H (veqA neg ks v y)) rest acc K fr L H := by cases b <;> rfl
theorem wG_25_0 : wGuard T lim b d (pureV L H (veqA neg ks x (vif b v))) rest K fr L H = wGuard T lim b d (pureV L H (veqA neg ks x v)) rest K fr L H := by cases b <;> rfl
theorem wGH_25_0 : wGuardH T kk b d (pureV L H (veqA neg ks x (vif b v))) rest acc K fr L H = wGuardH T kk b d (pureV L H (veqA neg ks x v)) rest acc K fr L H := by cases b <;> rfl
theorem wG_25_1 : wGuard T lim (b && c) d (pureV L H (veqA neg ks x (vif b v))) rest K fr L H = wGuard T lim (b && c) d (pureV L H (veqA neg ks x v)) rest K fr L H := by cases b <;> rfl
theorem wGH_25_1 : wGuardH T kk (b && c) d (pureV L H (veqA neg ks x (vif b v))) rest acc K fr L H = wGuardH T kk (b && c) d (pureV L H (veqA neg ks x v)) rest acc K fr L H := by cases b <;> rfl
theorem wG_26_0 : wGuard T lim b d (pureV L H (vpick (vif b v) x y)) rest K fr L H = wGuard T lim b d (pureV L H (vpick v x y)) rest K fr L H := by cases b <;> rfl
theorem wGH_26_0 : wGuardH T kk b d (pureV L H (vpick (vif b v) x y)) rest acc K fr L H = wGuardH T kk b d (pureV L H (vpick v x y)) rest acc K fr L H := by cases b <;> rfl
theorem wG_26_1 : wGuard T lim (b && c) d (pureV L H (vpick (vif b v) x y)) rest K fr L H = wGuard T lim (b && c) d (pureV L H (vpick v x y)) rest K fr L H := by cases b <;> rfl
theorem wGH_26_1 : wGuardH T kk (b && c) d (pureV L H (vpick (vif b v) x y)) rest acc K fr L H = wGuardH T kk (b && c) d (pureV L H (vpick v x y)) rest acc K fr L H := by cases b <;> rfl
theorem wG_27_0 : wGuard T lim b d (pureV L H (vpick x (vif b v) y)) rest K fr L H = wGuard T lim b d (pureV L H (vpick x v y)) rest K fr L H := by cases b <;> rfl
theorem wGH_27_0 : wGuardH T kk b d (pureV L H (vpick x (vif b v) y)) rest acc K fr L H = wGuardH T kk b d (pureV L H (vpick x v y)) rest acc K fr L H := by cases b <;> rfl
theorem wG_27_1 : wGuard T lim (b && c) d (pureV L H (vpick x (vif b v) y)) rest K fr L H = wGuard T lim (b && c) d (pureV L H (vpick x v y)) rest K fr L H := by cases b <;> rfl
theorem wGH_27_1 : wGuardH T kk (b && c) d (pureV L H (vpick x (vif b v) y)) rest acc K fr L H = wGuardH T kk (b && c) d (pureV L H (vpick x v y)) rest acc K fr L H := by cases b <;> rfl
theorem wG_28_0 : wGuard T lim b d (pureV L H (vpick x y (vif b v))) rest K fr L H = wGuard T lim b d (pureV L H (vpick x y v)) rest K fr L H := by cases b <;> rfl
theorem wGH_28_0 : wGuardH T kk b d (pureV L H (vpick x y (vif b v))) rest acc K fr L H = wGuardH T kk b d (pureV L H (vpick x y v)) rest acc K fr L H := by cases b <;> rfl
theorem wG_28_1 : wGuard T lim (b && c) d (pureV L H (vpick x y (vif b v))) rest K fr L H = wGuard T lim (b && c) d (pureV L H (vpick x y v)) rest K fr L H := by cases b <;> rfl
theorem wGH_28_1 : wGuardH T kk (b && c) d (pureV L H (vpick x y (vif b v))) rest acc K fr L H = wGuardH T kk (b && c) d (pureV L H (vpick x y v)) rest acc K fr L H := by cases b <;> rfl
end
attribute [simp] vif_vif vif_and vwant_vifT vwant_vifF wG_0_0 wGH_0_0 wG_0_1 wGH_0_1 wG_1_0 wGH_1_0 wG_1_1 wGH_1_1 wG_2_0 wGH_2_0 wG_2_1 wGH_2_1 wG_3_0 wGH_3_0 wG_3_1 wGH_3_1 wG_4_0 wGH_4_0 wG_4_1 wGH_4_1 wG_5_0 wGH_5_0 wG_5_1 wGH_5_1 wG_6_0 wGH_6_0 wG_6_1 wGH_6_1 wG_7_0 wGH_7_0 wG_7_1 wGH_7_1 wG_8_0 wGH_8_0 wG_8_1 wGH_8_1 wG_9_0 wGH_9_0 wG_9_1 wGH_9_1 wG_10_0 wGH_10_0 wG_10_1 wGH_10_1 wG_11_0 wGH_11_0 wG_11_1 wGH_11_1 wG_12_0 wGH_12_0 wG_12_1 wGH_12_1 wG_13_0 wGH_13_0 wG_13_1 wGH_13_1 wG_14_0 wGH_14_0 wG_14_1 wGH_14_1 wG_15_0 wGH_15_0 wG_15_1 wGH_15_1 wG_16_0 wGH_16_0 wG_16_1 wGH_16_1 wG_17_0 wGH_17_0 wG_17_1 wGH_17_1 wG_18_0 wGH_18_0 wG_18_1 wGH_18_1 wG_19_0 wGH_19_0 wG_19_1 wGH_19_1 wG_20_0 wGH_20_0 wG_20_1 wGH_20_1 wG_21_0 wGH_21_0 wG_21_1 wGH_21_1 wG_22_0 wGH_22_0 wG_22_1 wGH_22_1 wG_23_0 wGH_23_0 wG_23_1 wGH_23_1 wG_24_0 wGH_24_0 wG_24_1 wGH_24_1 wG_25_0 wGH_25_0 wG_25_1 wGH_25_1 wG_26_0 wGH_26_0 wG_26_1 wGH_26_1 wG_27_0 wGH_27_0 wG_27_1 wGH_27_1 wG_28_0 wGH_28_0 wG_28_1 wGH_28_1
theorem rd_two {a b : V} : rd (some 2) [a, b] 0 = some (.agg [a, b]) := Eq.trans rfl rfl
theorem rd_two0 {a b : V} : rd none [a, b] 0 = some a := Eq.trans rfl rfl
theorem rd_two1 {a b : V} : rd none [a, b] 1 = some b := Eq.trans rfl rfl
attribute [simp] rd_two rd_two0 rd_two1


/-! heads that write the heap -/
def isLp : V → Bool
  | .lp _ _ => true
  | _ => false
def isPtr : V → Bool
  | .ptr _ _ => true
  | _ => false
section
variable {fr : Fr} {b : Bool} {n m : Nat} {zs : List V} {ps : List (Nat × Nat × Opd)} {x y z a : Opd} {op : BinOp} {uop : UnOp} {ks : List CK} {g : Option Nat} {k : IntKind} {lo hi : Option Opd} {f : FuncId} {xs ys : List Opd}
theorem isLp_lp {i o : Nat} : isLp (.lp i o) = true := Eq.trans rfl rfl
theorem isLp_ptr {i o : Nat} : isLp (.ptr i o) = false := Eq.trans rfl rfl
theorem isPtr_lp {i o : Nat} : isPtr (.lp i o) = false := Eq.trans rfl rfl
theorem isPtr_ptr {i o : Nat} : isPtr (.ptr i o) = true := Eq.trans rfl rfl
theorem hfree_load : hfree fr (.load g a) = isLp (opd fr a) := by
  simp only [hfree]; cases opd fr a <;> rfl
theorem hfree_store : hfree fr (.store n a x) = isLp (opd fr a) := by
  simp only [hfree]; cases opd fr a <;> rfl
theorem hstore_store : hstore fr (.store n a x) = isPtr (opd fr a) := by
  simp only [hstore]; cases opd fr a <;> rfl
theorem hfree_move : hfree fr (.move x) = true := Eq.trans rfl rfl
theorem hstore_move : hstore fr (.move x) = false := Eq.trans rfl rfl
theorem headOkS_move : headOkS (.move x) = true := Eq.trans rfl rfl
theorem happ_move : happ (.move x) = false := Eq.trans rfl rfl
theorem hfree_pick : hfree fr (.pick x y z) = true := Eq.trans rfl rfl
theorem hstore_pick : hstore fr (.pick x y z) = false := Eq.trans rfl rfl
theorem headOkS_pick : headOkS (.pick x y z) = true := Eq.trans rfl rfl
theorem happ_pick : happ (.pick x y z) = false := Eq.trans rfl rfl
theorem hfree_new : hfree fr (.new b zs) = b := Eq.trans rfl rfl
theorem hstore_new : hstore fr (.new b zs) = false := Eq.trans rfl rfl
theorem headOkS_new : headOkS (.new b zs) = true := Eq.trans rfl rfl
theorem happ_new : happ (.new b zs) = false := Eq.trans rfl rfl
theorem hfree_box : hfree fr (.box b x) = b := Eq.trans rfl rfl
theorem hstore_box : hstore fr (.box b x) = false := Eq.trans rfl rfl
theorem headOkS_box : headOkS (.box b x) = true := Eq.trans rfl rfl
theorem happ_box : happ (.box b x) = false := Eq.trans rfl rfl
theorem hfree_build : hfree fr (.build zs ps) = true := Eq.trans rfl rfl
theorem hstore_build : hstore fr (.build zs ps) = false := Eq.trans rfl rfl
theorem headOkS_build : headOkS (.build zs ps) = true := Eq.trans rfl rfl
theorem happ_build : happ (.build zs ps) = false := Eq.trans rfl rfl
theorem hfree_bslice : hfree fr (.bslice n m zs ps) = false := Eq.trans rfl rfl
theorem hstore_bslice : hstore fr (.bslice n m zs ps) = false := Eq.trans rfl rfl
theorem headOkS_bslice : headOkS (.bslice n m zs ps) = true := Eq.trans rfl rfl
theorem happ_bslice : happ (.bslice n m zs ps) = false := Eq.trans rfl rfl
theorem hfree_mks : hfree fr (.mks n m zs x y) = false := Eq.trans rfl rfl
theorem hstore_mks : hstore fr (.mks n m zs x y) = false := Eq.trans rfl rfl
theorem headOkS_mks : headOkS (.mks n m zs x y) = true := Eq.trans rfl rfl
theorem happ_mks : happ (.mks n m zs x y) = false := Eq.trans rfl rfl
theorem hfree_bin : hfree fr (.bin op x y) = true := Eq.trans rfl rfl
theorem hstore_bin : hstore fr (.bin op x y) = false := Eq.trans rfl rfl
theorem headOkS_bin : headOkS (.bin op x y) = true := Eq.trans rfl rfl
theorem happ_bin : happ (.bin op x y) = false := Eq.trans rfl rfl
theorem hfree_eqB : hfree fr (.eqB b x y) = true := Eq.trans rfl rfl
theorem hstore_eqB : hstore fr (.eqB b x y) = false := Eq.trans rfl rfl
theorem headOkS_eqB : headOkS (.eqB b x y) = true := Eq.trans rfl rfl
theorem happ_eqB : happ (.eqB b x y) = false := Eq.trans rfl rfl
theorem hfree_eqA : hfree fr (.eqA b ks x y) = true := Eq.trans rfl rfl
theorem hstore_eqA : hstore fr (.eqA b ks x y) = false := Eq.trans rfl rfl
theorem headOkS_eqA : headOkS (.eqA b ks x y) = true := Eq.trans rfl rfl
theorem happ_eqA : happ (.eqA b ks x y) = false := Eq.trans rfl rfl
theorem hfree_un : hfree fr (.un uop x) = true := Eq.trans rfl rfl
theorem hstore_un : hstore fr (.un uop x) = false := Eq.trans rfl rfl
theorem headOkS_un : headOkS (.un uop x) = true := Eq.trans rfl rfl
theorem happ_un : happ (.un uop x) = false := Eq.trans rfl rfl
theorem hfree_faddr : hfree fr (.faddr n x) = true := Eq.trans rfl rfl
theorem hstore_faddr : hstore fr (.faddr n x) = false := Eq.trans rfl rfl
theorem headOkS_faddr : headOkS (.faddr n x) = true := Eq.trans rfl rfl
theorem happ_faddr : happ (.faddr n x) = false := Eq.trans rfl rfl
theorem hfree_iaddrA : hfree fr (.iaddrA n m x y) = true := Eq.trans rfl rfl
theorem hstore_iaddrA : hstore fr (.iaddrA n m x y) = false := Eq.trans rfl rfl
theorem headOkS_iaddrA : headOkS (.iaddrA n m x y) = true := Eq.trans rfl rfl
theorem happ_iaddrA : happ (.iaddrA n m x y) = false := Eq.trans rfl rfl
theorem hfree_iaddrS : hfree fr (.iaddrS n x y) = true := Eq.trans rfl rfl
theorem hstore_iaddrS : hstore fr (.iaddrS n x y) = false := Eq.trans rfl rfl
theorem headOkS_iaddrS : headOkS (.iaddrS n x y) = true := Eq.trans rfl rfl
theorem happ_iaddrS : happ (.iaddrS n x y) = false := Eq.trans rfl rfl
theorem hfree_idxA : hfree fr (.idxA n m g x y) = true := Eq.trans rfl rfl
theorem hstore_idxA : hstore fr (.idxA n m g x y) = false := Eq.trans rfl rfl
theorem headOkS_idxA : headOkS (.idxA n m g x y) = true := Eq.trans rfl rfl
theorem happ_idxA : happ (.idxA n m g x y) = false := Eq.trans rfl rfl
theorem hfree_idxT : hfree fr (.idxT x y) = true := Eq.trans rfl rfl
theorem hstore_idxT : hstore fr (.idxT x y) = false := Eq.trans rfl rfl
theorem headOkS_idxT : headOkS (.idxT x y) = true := Eq.trans rfl rfl
theorem happ_idxT : happ (.idxT x y) = false := Eq.trans rfl rfl
theorem hfree_field : hfree fr (.field n g x) = true := Eq.trans rfl rfl
theorem hstore_field : hstore fr (.field n g x) = false := Eq.trans rfl rfl
theorem headOkS_field : headOkS (.field n g x) = true := Eq.trans rfl rfl
theorem happ_field : happ (.field n g x) = false := Eq.trans rfl rfl
theorem hfree_ext : hfree fr (.ext x n) = true := Eq.trans rfl rfl
theorem hstore_ext : hstore fr (.ext x n) = false := Eq.trans rfl rfl
theorem headOkS_ext : headOkS (.ext x n) = true := Eq.trans rfl rfl
theorem happ_ext : happ (.ext x n) = false := Eq.trans rfl rfl
theorem hfree_conv : hfree fr (.conv k x) = true := Eq.trans rfl rfl
theorem hstore_conv : hstore fr (.conv k x) = false := Eq.trans rfl rfl
theorem headOkS_conv : headOkS (.conv k x) = true := Eq.trans rfl rfl
theorem happ_conv : happ (.conv k x) = false := Eq.trans rfl rfl
theorem hfree_slA : hfree fr (.slA n m x lo hi) = false := Eq.trans rfl rfl
theorem hstore_slA : hstore fr (.slA n m x lo hi) = false := Eq.trans rfl rfl
theorem headOkS_slA : headOkS (.slA n m x lo hi) = true := Eq.trans rfl rfl
theorem happ_slA : happ (.slA n m x lo hi) = false := Eq.trans rfl rfl
theorem hfree_slS : hfree fr (.slS n x lo hi) = true := Eq.trans rfl rfl
theorem hstore_slS : hstore fr (.slS n x lo hi) = false := Eq.trans rfl rfl
theorem headOkS_slS : headOkS (.slS n x lo hi) = true := Eq.trans rfl rfl
theorem happ_slS : happ (.slS n x lo hi) = false := Eq.trans rfl rfl
theorem hfree_slT : hfree fr (.slT x lo hi) = true := Eq.trans rfl rfl
theorem hstore_slT : hstore fr (.slT x lo hi) = false := Eq.trans rfl rfl
theorem headOkS_slT : headOkS (.slT x lo hi) = true := Eq.trans rfl rfl
theorem happ_slT : happ (.slT x lo hi) = false := Eq.trans rfl rfl
theorem hfree_call : hfree fr (.call f xs) = false := Eq.trans rfl rfl
theorem hstore_call : hstore fr (.call f xs) = false := Eq.trans rfl rfl
theorem headOkS_call : headOkS (.call f xs) = true := Eq.trans rfl rfl
theorem happ_call : happ (.call f xs) = false := Eq.trans rfl rfl
theorem hfree_lenS : hfree fr (.lenS x) = true := Eq.trans rfl rfl
theorem hstore_lenS : hstore fr (.lenS x) = false := Eq.trans rfl rfl
theorem headOkS_lenS : headOkS (.lenS x) = true := Eq.trans rfl rfl
theorem happ_lenS : happ (.lenS x) = false := Eq.trans rfl rfl
theorem hfree_lenT : hfree fr (.lenT x) = true := Eq.trans rfl rfl
theorem hstore_lenT : hstore fr (.lenT x) = false := Eq.trans rfl rfl
theorem headOkS_lenT : headOkS (.lenT x) = true := Eq.trans rfl rfl
theorem happ_lenT : happ (.lenT x) = false := Eq.trans rfl rfl
theorem hfree_lenA : hfree fr (.lenA n) = true := Eq.trans rfl rfl
theorem hstore_lenA : hstore fr (.lenA n) = false := Eq.trans rfl rfl
theorem headOkS_lenA : headOkS (.lenA n) = true := Eq.trans rfl rfl
theorem happ_lenA : happ (.lenA n) = false := Eq.trans rfl rfl
theorem hfree_append : hfree fr (.append n m x y) = false := Eq.trans rfl rfl
theorem hstore_append : hstore fr (.append n m x y) = false := Eq.trans rfl rfl
theorem headOkS_append : headOkS (.append n m x y) = true := Eq.trans rfl rfl
theorem happ_append : happ (.append n m x y) = true := Eq.trans rfl rfl
theorem hfree_copy : hfree fr (.copy n x y) = false := Eq.trans rfl rfl
theorem hstore_copy : hstore fr (.copy n x y) = false := Eq.trans rfl rfl
theorem headOkS_copy : headOkS (.copy n x y) = false := Eq.trans rfl rfl
theorem happ_copy : happ (.copy n x y) = false := Eq.trans rfl rfl
theorem hfree_max3 : hfree fr (.max3 x y z) = true := Eq.trans rfl rfl
theorem hstore_max3 : hstore fr (.max3 x y z) = false := Eq.trans rfl rfl
theorem headOkS_max3 : headOkS (.max3 x y z) = true := Eq.trans rfl rfl
theorem happ_max3 : happ (.max3 x y z) = false := Eq.trans rfl rfl
theorem hfree_min3 : hfree fr (.min3 x y z) = true := Eq.trans rfl rfl
theorem hstore_min3 : hstore fr (.min3 x y z) = false := Eq.trans rfl rfl
theorem headOkS_min3 : headOkS (.min3 x y z) = true := Eq.trans rfl rfl
theorem happ_min3 : happ (.min3 x y z) = false := Eq.trans rfl rfl
theorem hfree_nilc : hfree fr (.nilc x) = true := Eq.trans rfl rfl
theorem hstore_nilc : hstore fr (.nilc x) = false := Eq.trans rfl rfl
theorem headOkS_nilc : headOkS (.nilc x) = true := Eq.trans rfl rfl
theorem happ_nilc : happ (.nilc x) = false := Eq.trans rfl rfl
theorem hfree_mkf : hfree fr (.mkf f xs ys) = true := Eq.trans rfl rfl
theorem hstore_mkf : hstore fr (.mkf f xs ys) = false := Eq.trans rfl rfl
theorem headOkS_mkf : headOkS (.mkf f xs ys) = true := Eq.trans rfl rfl
theorem happ_mkf : happ (.mkf f xs ys) = false := Eq.trans rfl rfl
theorem hfree_callV : hfree fr (.callV x xs) = false := Eq.trans rfl rfl
theorem hstore_callV : hstore fr (.callV x xs) = false := Eq.trans rfl rfl
theorem headOkS_callV : headOkS (.callV x xs) = true := Eq.trans rfl rfl
theorem happ_callV : happ (.callV x xs) = false := Eq.trans rfl rfl
theorem hfree_clr : hfree fr (.clr n zs x) = false := Eq.trans rfl rfl
theorem hstore_clr : hstore fr (.clr n zs x) = false := Eq.trans rfl rfl
theorem headOkS_clr : headOkS (.clr n zs x) = false := Eq.trans rfl rfl
theorem happ_clr : happ (.clr n zs x) = false := Eq.trans rfl rfl
theorem hfree_slS3 : hfree fr (.slS3 n x lo hi y) = true := Eq.trans rfl rfl
theorem hstore_slS3 : hstore fr (.slS3 n x lo hi y) = false := Eq.trans rfl rfl
theorem headOkS_slS3 : headOkS (.slS3 n x lo hi y) = true := Eq.trans rfl rfl
theorem happ_slS3 : happ (.slS3 n x lo hi y) = false := Eq.trans rfl rfl
theorem hfree_bytes : hfree fr (.bytes x) = false := Eq.trans rfl rfl
theorem hstore_bytes : hstore fr (.bytes x) = false := Eq.trans rfl rfl
theorem headOkS_bytes : headOkS (.bytes x) = true := Eq.trans rfl rfl
theorem happ_bytes : happ (.bytes x) = false := Eq.trans rfl rfl
theorem hfree_x {kx : XOp} : hfree fr (.x kx xs) = xfree kx := Eq.trans rfl rfl
def isMput : XOp → Bool
  | .mput _ _ => true
  | _ => false
theorem hstore_x {kx : XOp} : hstore fr (.x kx xs) = isMput kx := by cases kx <;> rfl
theorem headOkS_x {kx : XOp} : headOkS (.x kx xs) = (isMput kx || !xwrite kx) := by cases kx <;> rfl
theorem happ_x {kx : XOp} : happ (.x kx xs) = false := Eq.trans rfl rfl
attribute [simp] isMput
attribute [simp] hfree_x hstore_x headOkS_x
theorem hfree_eqN : hfree fr (.eqN b x) = true := Eq.trans rfl rfl
theorem hstore_eqN : hstore fr (.eqN b x) = false := Eq.trans rfl rfl
theorem headOkS_eqN : headOkS (.eqN b x) = true := Eq.trans rfl rfl
theorem happ_eqN : happ (.eqN b x) = false := Eq.trans rfl rfl
theorem hfree_max2 : hfree fr (.max2 x y) = true := Eq.trans rfl rfl
theorem hstore_max2 : hstore fr (.max2 x y) = false := Eq.trans rfl rfl
theorem headOkS_max2 : headOkS (.max2 x y) = true := Eq.trans rfl rfl
theorem happ_max2 : happ (.max2 x y) = false := Eq.trans rfl rfl
theorem hfree_min2 : hfree fr (.min2 x y) = true := Eq.trans rfl rfl
theorem hstore_min2 : hstore fr (.min2 x y) = false := Eq.trans rfl rfl
theorem headOkS_min2 : headOkS (.min2 x y) = true := Eq.trans rfl rfl
theorem happ_min2 : happ (.min2 x y) = false := Eq.trans rfl rfl
theorem hstore_load : hstore fr (.load g a) = false := Eq.trans rfl rfl
theorem headOkS_load : headOkS (.load g a) = true := Eq.trans rfl rfl
theorem happ_load : happ (.load g a) = false := Eq.trans rfl rfl
theorem headOkS_store : headOkS (.store n a x) = true := Eq.trans rfl rfl
theorem happ_store : happ (.store n a x) = false := Eq.trans rfl rfl
end
attribute [simp] happ_move happ_pick happ_new happ_box happ_build happ_bslice happ_mks happ_bin happ_eqB happ_eqA happ_un happ_faddr happ_iaddrA happ_iaddrS happ_idxA happ_idxT happ_field happ_ext happ_conv happ_slA happ_slS happ_slT happ_call happ_lenS happ_lenT happ_lenA happ_append happ_copy happ_max3 happ_min3 happ_nilc happ_mkf happ_callV happ_clr happ_slS3 happ_bytes happ_eqN happ_max2 happ_min2 happ_load happ_store happ_x
attribute [simp] hfree_bytes hstore_bytes headOkS_bytes isLp_lp isLp_ptr isPtr_lp isPtr_ptr hfree_load hfree_store hstore_store hfree_move hstore_move headOkS_move hfree_pick hstore_pick headOkS_pick hfree_new hstore_new headOkS_new hfree_box hstore_box headOkS_box hfree_build hstore_build headOkS_build hfree_bslice hstore_bslice headOkS_bslice hfree_mks hstore_mks headOkS_mks hfree_bin hstore_bin headOkS_bin hfree_eqB hstore_eqB headOkS_eqB hfree_eqA hstore_eqA headOkS_eqA hfree_un hstore_un headOkS_un hfree_faddr hstore_faddr headOkS_faddr hfree_iaddrA hstore_iaddrA headOkS_iaddrA hfree_iaddrS hstore_iaddrS headOkS_iaddrS hfree_idxA hstore_idxA headOkS_idxA hfree_idxT hstore_idxT headOkS_idxT hfree_field hstore_field headOkS_field hfree_ext hstore_ext headOkS_ext hfree_conv hstore_conv headOkS_conv hfree_slA hstore_slA headOkS_slA hfree_slS hstore_slS headOkS_slS hfree_slT hstore_slT headOkS_slT hfree_call hstore_call headOkS_call hfree_lenS hstore_lenS headOkS_lenS hfree_lenT hstore_lenT headOkS_lenT hfree_lenA hstore_lenA headOkS_lenA hfree_append hstore_append headOkS_append hfree_copy hstore_copy headOkS_copy hfree_max3 hstore_max3 headOkS_max3 hfree_min3 hstore_min3 headOkS_min3 hfree_nilc hstore_nilc headOkS_nilc hfree_mkf hstore_mkf headOkS_mkf hfree_callV hstore_callV headOkS_callV hfree_clr hstore_clr headOkS_clr hfree_slS3 hstore_slS3 headOkS_slS3 hfree_eqN hstore_eqN headOkS_eqN hfree_max2 hstore_max2 headOkS_max2 hfree_min2 hstore_min2 headOkS_min2 hstore_load headOkS_load headOkS_store

def headKS (T : Tbl) (lim k : Nat) (d : Option Nat) (rest : List VOper) (acc : List (Nat × Nat)) (hp : HpAcc) (K : St → Prop) (fr : Fr) : V → Lo → Hp → Prop := fun v L H => wHeadS T lim (k + 1) rest acc hp K ⟨putD fr d v, L, H⟩
def wStepHS (T : Tbl) (lim k l : Nat) (b : Bool) (d : Option Nat) (op : VOp) (rest : List VOper) (acc : List (Nat × Nat)) (hp : HpAcc) (K : St → Prop) (fr : Fr) (L : Lo) (H : Hp) : Prop :=
  if b then wNext T l L H (evOp l fr L H op) (headKS T lim k d rest acc hp K fr) else wHeadS T lim (k + 1) rest acc hp K ⟨putD fr d dv, L, H⟩
def wAccS (T : Tbl) (lim k l : Nat) (r : Option (List (Nat × Nat) × HpAcc)) (d : Option Nat) (op : VOp) (g : Option (Nat × Bool)) (rest : List VOper) (K : St → Prop) (fr : Fr) (L : Lo) (H : Hp) : Prop := match r with
  | none => False
  | some (acc, hp) => wStepHS T lim k l (wanted fr g) d op rest acc hp K fr L H
section
variable {T : Tbl} {lim : Nat} {Q : VExit → St → Prop} {s : St} {K : St → Prop} {fr : Fr} {L : Lo} {H : Hp} {d : Option Nat} {op : VOp} {g : Option (Nat × Bool)} {l : List Nat} {rest : List VOper} {k ll : Nat} {acc : List (Nat × Nat)} {hp : HpAcc}
theorem headKS_at {v : V} : headKS T lim k d rest acc hp K fr v L H = wHeadS T lim (k + 1) rest acc hp K ⟨putD fr d v, L, H⟩ := Eq.trans rfl rfl
theorem wStepHS_true : wStepHS T lim k ll true d op rest acc hp K fr L H = wNext T ll L H (evOp ll fr L H op) (headKS T lim k d rest acc hp K fr) := Eq.trans rfl rfl
theorem wStepHS_false : wStepHS T lim k ll false d op rest acc hp K fr L H = wHeadS T lim (k + 1) rest acc hp K ⟨putD fr d dv, L, H⟩ := Eq.trans rfl rfl
theorem wAccS_some : wAccS T lim k ll (some (acc, hp)) d op g rest K fr L H = wStepHS T lim k ll (wanted fr g) d op rest acc hp K fr L H := Eq.trans rfl rfl
theorem wHeadS_nil : wHeadS T lim k [] acc hp K s = K s := Eq.trans rfl rfl
theorem wHeadS_cons : wHeadS T lim k (⟨d, op, g, l⟩ :: rest) acc hp K ⟨fr, L, H⟩ = wAccS T lim k (headLim lim op ⟨fr, L, H⟩) (headAccS ⟨d, op, g, l⟩ k ⟨fr, L, H⟩ acc hp) d op g rest K fr L H := by
  simp only [wHeadS, wAccS, wStepHS, wNext, wVal]
  rfl
theorem wCode_drawS {h t : List VOper} : wCode T lim (.drawS h t) Q s = wHeadS T lim 0 h [] ([], false) (wOps T lim t (Q .normal)) s := Eq.trans rfl rfl
end
attribute [simp ↓] wHeadS_nil wHeadS_cons wCode_drawS headKS_at wStepHS_true wStepHS_false
attribute [simp] wAccS_some headAccS heapAcc headLim lateNone

section
variable {T : Tbl} {lim : Nat}
/-- a loop over a function -/
def wRange (T : Tbl) (lim : Nat) (f : FuncId) (ps : List Nat) (nt : Nat) (Q : VExit → St → Prop) (fr : Fr) (L : Lo) (H : Hp) : V → Prop
  | .func (.func h) fs cs => h ≠ 3999999 ∧ VCall T lim h (fs ++ [.yl H.length] ++ cs) (H ++ [.loop f ps (hideF fr nt)]) fun _ H2 => ∃ f2 ps2 fr2, H2[H.length]? = some (.loop f2 ps2 fr2) ∧ Q .normal ⟨fr, L, H2.set H.length .dead⟩
  | _ => False
theorem wCode_range {g : Opd} {f : FuncId} {ps : List Nat} {nt : Nat} {Q : VExit → St → Prop} {fr : Fr} {L : Lo} {H : Hp} : wCode T lim (.rangeF g f ps nt) Q ⟨fr, L, H⟩ = wRange T lim f ps nt Q fr L H (opd fr g) := by
  simp only [wCode, wRange]
  rfl
theorem wRange_func {h : FuncId} {fs cs : List V} {f : FuncId} {ps : List Nat} {nt : Nat} {Q : VExit → St → Prop} {fr : Fr} {L : Lo} {H : Hp} : wRange T lim f ps nt Q fr L H (.func (.func h) fs cs) =
    (h ≠ 3999999 ∧ VCall T lim h (fs ++ [.yl H.length] ++ cs) (H ++ [.loop f ps (hideF fr nt)]) fun _ H2 => ∃ f2 ps2 fr2, H2[H.length]? = some (.loop f2 ps2 fr2) ∧ Q .normal ⟨fr, L, H2.set H.length .dead⟩) := Eq.trans rfl rfl
attribute [simp] wCode_range wRange_func
end
/-! tables -/
theorem TblOk.none {P : Program} : TblOk P (fun _ => none) := fun _ _ h => by cases h
def tblAdd (i : Nat) (vf : VFn) (T : Tbl) : Tbl := fun f => if f = i then some vf else T f
theorem TblOk.add {P : Program} {T : Tbl} (h : TblOk P T) {i : Nat} {vf : VFn} {fn : Func} (glob : List Nat) (hf : P.funcs[i]? = some fn) (hs : slimFn P glob fn = some vf) (hi : i < rB) (hn : noRd fn = true ∨ (P = theP ∧ rMark glob = some (rB + i) ∧ (rdOf P (rB + i)).isSome = true)) : TblOk P (tblAdd i vf T) := by
  intro f vf' hv
  unfold tblAdd at hv
  split at hv
  · rename_i e; subst e; cases hv; exact Or.inl ⟨hi, fn, glob, hf, hs, hn⟩
  · exact h f vf' hv
theorem TblOk.addR {P : Program} {T : Tbl} (h : TblOk P T) {i : Nat} {vf : VFn} (fn : Func) (glob : List Nat) (hi : rB ≤ i) (hP : P = theP) (hs : slimRd P glob i fn = some vf) : TblOk P (tblAdd i vf T) := by
  intro f vf' hv
  unfold tblAdd at hv
  split at hv
  · rename_i e; subst e; cases hv; exact Or.inr (Or.inl ⟨hi, hP, fn, glob, hs⟩)
  · exact h f vf' hv
theorem TblOk.addP {P : Program} {T : Tbl} (h : TblOk P T) {i n : Nat} {rs : List VRes} {g : PrimF} (hi : i < rB) (hs : PrimOk P i g) : TblOk P (tblAdd i ⟨n, rs, .prim g⟩ T) := by
  intro f vf' hv
  unfold tblAdd at hv
  split at hv
  · rename_i e; subst e; cases hv; exact Or.inr (Or.inr (Or.inl ⟨hi, g, rfl, hs⟩))
  · exact h f vf' hv
theorem TblOk.addH {P : Program} {T : Tbl} (h : TblOk P T) {i : Nat} {vf : VFn} (hi : i < rB) (hp : primOf vf.body = Option.none) (hs : HandOk P i vf) : TblOk P (tblAdd i vf T) := by
  intro f vf' hv
  unfold tblAdd at hv
  split at hv
  · rename_i e; subst e; cases hv; exact Or.inr (Or.inr (Or.inr ⟨hi, hp, hs⟩))
  · exact h f vf' hv
end Go.Proofs.YtpdnbmnnkefedaaGreatDoor.Vm
