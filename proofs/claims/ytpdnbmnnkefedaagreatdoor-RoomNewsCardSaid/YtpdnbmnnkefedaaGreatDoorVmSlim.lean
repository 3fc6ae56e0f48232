/- Slim code out of the model's code: types are resolved, what is not served is refused ('none'). -/
import Derived.Test.YtpdnbmnnkefedaaGreatDoorVmCore
import Derived.Test.YtpdnbmnnkefedaaGreatDoorVmGl
import Derived.StillTail
namespace Go.Proofs.YtpdnbmnnkefedaaGreatDoor.Vm
open Go
set_option linter.unusedVariables false

def toV : Value → Option V
  | .bool b => some (.bool b)
  | .int k n => some (.int k n)
  | .string s => some (.str s)
  | .pointer none => some .pnil
  | .slice none 0 0 => some .snil
  | .nilFunc => some .fnil
  | .nilIface => some .inil
  | .map none => some .mnil
  | _ => none

def toVs : List Value → Option (List V)
  | [] => some []
  | x :: xs => match toV x, toVs xs with
    | some v, some vs => some (v :: vs)
    | _, _ => none

def slimOpd : Operand → Option Opd
  | .tmp t => some (.t t)
  | .const v => (toV v).map .c
  | .func f => some (.c (.func (.func f) [] []))
  | .global g => (glAt g).map fun k => .c (.ptr k 0)

def slimOpdO : Option Operand → Option (Option Opd)
  | none => some none
  | some x => (slimOpd x).map some

def slimOpds : List Operand → Option (List Opd)
  | [] => some []
  | x :: xs => match slimOpd x, slimOpds xs with
    | some v, some vs => some (v :: vs)
    | _, _ => none

def zeroV (P : Program) (t : TypeId) : Option (List V) :=
  match P.info? t with
  | some i => match i.zero with
    | some z => toVs z.cells.toList
    | none => none
  | none => none

/-- none: no such type; some none: one cell; some (some n): a struct or an array of n cells -/
def aggOf (P : Program) (t : TypeId) : Option (Option Nat) :=
  match P.underlying t, P.info? t with
  | some (.struct _), some i => some (some i.size)
  | some (.array _ _), some i => some (some i.size)
  | some _, some _ => some none
  | _, _ => none

def sizeV (P : Program) (t : TypeId) : Option Nat := (P.info? t).map (·.size)

/-- the kinds of the cells of the fields, one behind the other -/
def flatFields (P : Program) (rec : TypeId → Option (List CK)) : List Field → Nat → Option (List CK)
  | [], _ => some []
  | f :: fs, off =>
    if f.offset = off ∧ f.name ≠ "_" then
      match rec f.type, sizeV P f.type with
      | some ks, some s => if ks.length = s then
          match flatFields P rec fs (off + s) with
          | some rest => some (ks ++ rest)
          | none => none
        else none
      | _, _ => none
    else none

/-- the kinds of the cells of a struct or an array whose parts are numbers, bools and texts -/
def flat (P : Program) : Nat → TypeId → Option (List CK)
  | 0, _ => none
  | d + 1, t =>
    match P.underlying t with
    | some (.int k) => some [.int k]
    | some .bool => some [.bool]
    | some .string => some [.str]
    | some (.struct fs) => if P.stoodInHeld t then none else flatFields P (flat P d) fs.toList 0
    | some (.array n e) => match flat P d e, sizeV P e with
      | some ks, some s => if ks.length = s then some (List.replicate n ks).flatten else none
      | _, _ => none
    | _ => none

def partsS (P : Program) (fields : Array Field) : List (Nat × Operand) → Option (List (Nat × Nat × Opd))
  | [] => some []
  | (i, x) :: rest =>
    match fields[i]?, slimOpd x, partsS P fields rest with
    | some f, some y, some ps => match sizeV P f.type with
      | some s => some ((f.offset, s, y) :: ps)
      | none => none
    | _, _, _ => none

def partsA (size : Nat) : List (Nat × Operand) → Option (List (Nat × Nat × Opd))
  | [] => some []
  | (i, x) :: rest =>
    match slimOpd x, partsA size rest with
    | some y, some ps => some ((i * size, size, y) :: ps)
    | _, _ => none

def bodied (P : Program) (f : FuncId) : Bool :=
  match P.funcs[f]? with
  | some fn => !(fn.name == "runtime.NumGoroutine") && fn.body.isSome
  | none => false

def locOf (glob : List Nat) (o : Oper) : Bool :=
  match o.dst with
  | some d => !glob.contains d
  | none => true

/-- marks among the numbers of the places that stand on the heap: room is known here; and forgotten behind append; results forget it -/
def capF (glob : List Nat) : Bool := glob.contains 1000000
def capW (glob : List Nat) : Bool := glob.contains 1000001
def capR (glob : List Nat) : Bool := glob.contains 1000002
/-- an operation that is marked: an empty slice without room; an append to it -/
def markF (glob : List Nat) (o : Oper) : Bool :=
  match o.dst with
  | some d => glob.contains (3000000 + d)
  | none => false
def apF (glob : List Nat) : Bool := glob.contains 1000003
def markG (glob : List Nat) (o : Oper) : List Nat := if markF glob o then 1000003 :: glob else glob
/-- the zero of a type, as a value -/
def zeroOf (P : Program) (t : TypeId) : Option V :=
  match P.info? t with
  | some i => match i.zero with
    | some (.agg cs) => (toVs cs.toList).map .agg
    | some z => toV z
    | none => none
  | none => none
/-- how the keys of a type are compared -/
def keyKinds (P : Program) (t : TypeId) : Option (Bool × List CK) :=
  match P.underlying t with
  | some (.struct _) => (flat P 20 t).map fun ks => (true, ks)
  | some (.array _ _) => (flat P 20 t).map fun ks => (true, ks)
  | some (.int _) => (flat P 20 t).map fun ks => (false, ks)
  | some .bool => (flat P 20 t).map fun ks => (false, ks)
  | some .string => (flat P 20 t).map fun ks => (false, ks)
  | _ => none
def optL : Option Opd → List Opd
  | some x => [x]
  | none => []

def slimBuiltin (P : Program) (glob : List Nat) (b : Builtin) (xs : Option (List Opd)) (ts : List TypeId) : Option VOp :=
  match b with
  | .len => match xs, ts with
    | some [x], t :: _ => match P.underlying t with
      | some (.slice _) => some (.lenS x)
      | some .string => some (.lenT x)
      | some (.array n _) => some (.lenA n)
      | some (.map _ _) => some (.x .lenM [x])
      | _ => none
    | _, _ => none
  | .append => match xs, ts with
    | some [x, y], t :: u :: _ => match P.underlying t, P.underlying u with
      | some (.slice e), some (.slice _) => match P.info? e with
        | some i => if i.zero.isSome ∧ 0 < i.bytes ∧ (i.zero.map (·.cells.size)) = some i.size then (if apF glob then some (.x (.ap0 i.size i.bytes) [x, y]) else if capF glob then some (.x (.apc (capW glob) i.size i.bytes) [x, y]) else some (.append i.size i.bytes x y)) else none
        | none => none
      | some (.slice e), some (.int _) => match P.info? e, zeroV P e with
        | some i, some z => if capF glob ∧ 0 < i.bytes ∧ (i.zero.map (·.cells.size)) = some i.size then some (.x (.apz i.size i.bytes z) [x, y]) else none
        | _, _ => none
      | _, _ => none
    | _, _ => none
  | .cap => match xs, ts with
    | some [x], t :: _ => match P.underlying t with
      | some (.slice _) => if capF glob then some (.x .capN [x]) else none
      | _ => none
    | _, _ => none
  | .copy => match xs, ts with
    | some [x, y], t :: _ => match P.underlying t with
      | some (.slice e) => (sizeV P e).map fun s => .copy s x y
      | _ => none
    | _, _ => none
  | .max => match xs with
    | some [x, y] => some (.max2 x y)
    | some [x, y, z] => some (.max3 x y z)
    | some [x, y, z, u] => some (.x .maxL [x, y, z, u])
    | _ => none
  | .min => match xs with
    | some [x, y] => some (.min2 x y)
    | some [x, y, z] => some (.min3 x y z)
    | _ => none
  | .clear => match xs, ts with
    | some [x], t :: _ => match P.underlying t with
      | some (.slice e) => match sizeV P e, zeroV P e with
        | some s, some z => some (.clr s z x)
        | _, _ => none
      | _ => none
    | _, _ => none
  | _ => none

/-- a nil that is written down -/
def isNilC : Operand → Bool
  | .const (.slice none 0 0) => true
  | _ => false
def isNilI : Operand → Bool
  | .const .nilIface => true
  | _ => false
def isNilP : Operand → Bool
  | .const (.pointer none) => true
  | _ => false
def ptrT (P : Program) (t : TypeId) : Bool :=
  match P.underlying t with
  | some (.pointer _) => true
  | _ => false
def ifcT (P : Program) (t : TypeId) : Bool :=
  match P.underlying t with
  | some (.interface _) => true
  | _ => false
/-- a type whose values are held against nil alone -/
def nilType (P : Program) (t : TypeId) : Bool :=
  match P.underlying t with
  | some (.slice _) => true
  | _ => false

/-- a type whose values are no plain ones: an interface -/
def ifaceB (P : Program) (t : TypeId) : Bool := match P.underlying t with
  | some (.interface _) => true
  | none => true
  | _ => false
def slimOp0 (P : Program) (glob : List Nat) (o : Oper) : Option VOp :=
  match o.op with
  | .move x => if markF glob o then (slimOpd x).map fun x => .x .wk [x] else (slimOpd x).map .move
  | .assign x => (slimOpd x).map .move
  | .pick c a b => match slimOpd c, slimOpd a, slimOpd b with
    | some c, some a, some b => some (.pick c a b)
    | _, _, _ => none
  | .alloc t => (zeroV P t).map (.new (locOf glob o))
  | .box _ x => (slimOpd x).map (.box (locOf glob o))
  | .build t parts => match P.underlying t, zeroV P t with
    | some (.struct fields), some z =>
      if fields.all fun f => (sizeV P f.type).isSome then (partsS P fields parts.toList).map (.build z) else none
    | some (.array _ e), some z => match sizeV P e with
      | some s => (partsA s parts.toList).map (.build z)
      | none => none
    | _, _ => none
  | .buildSlice t len parts => match P.underlying t with
    | some (.slice e) => match sizeV P e, zeroV P e with
      | some s, some z =>
        if markF glob o && len == 0 && parts.isEmpty then some (.x .bs0 []) else
        if z.length = s ∧ len * s ≤ 1000000 then (partsA s parts.toList).map (.bslice s len (rowOf len z)) else none
      | _, _ => none
    | _ => none
  | .makeSlice t l c => match P.underlying t, slimOpd l, slimOpd c with
    | some (.slice e), some l, some c => match P.info? e, zeroV P e with
      | some i, some z => if z.length = i.size then some (.mks i.size i.bytes z l c) else none
      | _, _ => none
    | _, _, _ => none
  | .load t a => match aggOf P t, slimOpd a with
    | some g, some a => some (.load g a)
    | _, _ => none
  | .store t a x => match sizeV P t, slimOpd a, slimOpd x with
    | some s, some a, some x => some (.store s a x)
    | _, _, _ => none
  | .binOp op t X Y _ => match slimOpd X, slimOpd Y with
    | some x, some y => match P.underlying t with
      | some (.int _) => some (.bin op x y)
      | some .bool => match op with
        | .eql => some (.eqB false x y)
        | .neq => some (.eqB true x y)
        | _ => none
      | some .string => some (.bin op x y)
      | _ => if nilType P t then
          if isNilC Y then
            match op with
            | .eql => some (.eqN false x)
            | .neq => some (.eqN true x)
            | _ => none
          else none
        else if ifcT P t && isNilI Y then
          match op with
          | .eql => some (.x (.inilT false) [x])
          | .neq => some (.x (.inilT true) [x])
          | _ => none
        else if ptrT P t && isNilP Y then
          match op with
          | .eql => some (.x (.pnilT false) [x])
          | .neq => some (.x (.pnilT true) [x])
          | _ => none
        else match flat P 20 t with
        | some ks =>
          if P.eqGuardType P.depth t then none else
          match op with
          | .eql => some (.eqA false ks x y)
          | .neq => some (.eqA true ks x y)
          | _ => none
        | none => none
    | _, _ => none
  | .unOp op _ x => (slimOpd x).map (.un op)
  | .convert src dst x => match P.underlying src, P.underlying dst, slimOpd x with
    | some (.int _), some (.int k), some x => some (.conv k x)
    | some .string, some (.slice e), some x => match P.underlying e with
      | some (.int .u8) => some (.bytes x)
      | _ => none
    | some (.slice e), some .string, some x => match P.underlying e with
      | some (.int .u8) => some (.x .strB [x])
      | some (.int .i32) => some (.x .strRs [x])
      | _ => none
    | some (.int _), some .string, some x => some (.x .strR [x])
    | _, _, _ => none
  | .nilCheck x => (slimOpd x).map .nilc
  | .makeFunc (.func f) fs cs => match slimOpds fs.toList, slimOpds cs.toList with
    | some fs, some cs => some (.mkf f fs cs)
    | _, _ => none
  | .slice t x lo hi (some mx) => match P.underlying t, slimOpd x, slimOpdO lo, slimOpdO hi, slimOpd mx with
    | some (.slice e), some x, some lo, some hi, some mx => (sizeV P e).map fun s => .slS3 s x lo hi mx
    | _, _, _, _, _ => none
  | .slice t x lo hi none => match P.underlying t, slimOpd x, slimOpdO lo, slimOpdO hi with
    | some (.array n e), some x, some lo, some hi => (sizeV P e).map fun s => .slA n s x lo hi
    | some (.slice e), some x, some lo, some hi => match sizeV P e with
      | some s => if capF glob then some (.x (.slC s lo.isSome hi.isSome) (x :: (optL lo ++ optL hi))) else some (.slS s x lo hi)
      | none => none
    | some .string, some x, some lo, some hi => some (.slT x lo hi)
    | _, _, _, _ => none
  | .fieldAddr t x f => match P.underlying t, slimOpd x with
    | some (.struct fields), some x => match fields[f]? with
      | some f => match sizeV P f.type with
        | some s => if s = 0 then none else some (.faddr f.offset x)
        | none => none
      | none => none
    | _, _ => none
  | .field t x f => match P.underlying t, slimOpd x with
    | some (.struct fields), some x => match fields[f]? with
      | some f => (aggOf P f.type).map fun g => .field f.offset g x
      | none => none
    | _, _ => none
  | .indexAddr t x i => match P.underlying t, slimOpd x, slimOpd i with
    | some (.array n e), some x, some i => (sizeV P e).map fun s => .iaddrA n s x i
    | some (.slice e), some x, some i => (sizeV P e).map fun s => .iaddrS s x i
    | _, _, _ => none
  | .index t x i => match P.underlying t, slimOpd x, slimOpd i with
    | some (.array n e), some x, some i => match sizeV P e, aggOf P e with
      | some s, some g => some (.idxA n s g x i)
      | _, _ => none
    | some .string, some x, some i => some (.idxT x i)
    | _, _, _ => none
  | .extract x i => (slimOpd x).map fun x => .ext x i
  | .call c => match c.callee with
    | .value (.func f) => if bodied P f && f != yB then (slimOpds c.args.toList).map (.call f) else none
    | .value (.tmp t) => (slimOpds c.args.toList).map (.callV (.t t))
    | .builtin b => slimBuiltin P (markG glob o) b (slimOpds c.args.toList) c.argTypes.toList
    | _ => none
  | .range t x => match P.underlying t, slimOpd x with
    | some .string, some x => some (.x .rgS [x])
    | _, _ => none
  | .next x true => match slimOpd x with
    | some x => some (.x .nxS [x])
    | none => none
  | .makeInterface t x => if ifaceB P t then none else (slimOpd x).map fun x => .x (.mkI t) [x]
  | .panic x => (slimOpd x).map fun x => .x .pan [x]
  | .makeMap _ none => some (.x .mkm [])
  | .lookup t x k ok => match P.underlying t, slimOpd x, slimOpd k with
    | some (.map kt e), some x, some k => match keyKinds P kt, zeroOf P e with
      | some (g, ks), some z => some (.x (.mget g ks ok z) [x, k])
      | _, _ => none
    | _, _, _ => none
  | .mapUpdate t m k v => match P.underlying t, slimOpd m, slimOpd k, slimOpd v with
    | some (.map kt _), some m, some k, some v => match keyKinds P kt with
      | some (g, ks) => some (.x (.mput g ks) [m, k, v])
      | none => none
    | _, _, _, _ => none
  | .mapEntry t m k => match P.underlying t, slimOpd m, slimOpd k with
    | some (.map kt e), some m, some k => match keyKinds P kt, zeroOf P e with
      | some (g, ks), some z => some (.x (.ment g ks z) [m, k])
      | _, _ => none
    | _, _, _ => none
  | .entryStore _ m n x => match slimOpd m, slimOpd n, slimOpd x with
    | some m, some n, some x => some (.x .mest [m, n, x])
    | _, _, _ => none
  | _ => none

/-- what is not served stands still -/
def slimOp (P : Program) (glob : List Nat) (o : Oper) : Option VOp :=
  match slimOp0 P glob o with
  | some v => some v
  | none => some .stuck
theorem slimOp_or {P : Program} {glob : List Nat} {o : Oper} {v : VOp} (h : slimOp P glob o = some v) : slimOp0 P glob o = some v ∨ v = .stuck := by
  unfold slimOp at h
  split at h
  · rename_i u hu; cases h; exact Or.inl hu
  · cases h; exact Or.inr rfl

def dstOk (nt : Nat) : Option Nat → Bool
  | some d => d < nt
  | none => true

def slimOper (P : Program) (glob : List Nat) (nt : Nat) (ops : Array Oper) (o : Oper) : Option VOper :=
  match slimOp P glob o with
  | none => none
  | some vo =>
    if dstOk nt o.dst then
      match o.guard with
      | none => some ⟨o.dst, vo, none, []⟩
      | some (j, want) => match (ops[j]?).bind (·.dst) with
        | some s => some ⟨o.dst, vo, some (s, want), []⟩
        | none => none
    else none

def slimOpers (P : Program) (glob : List Nat) (nt : Nat) (ops : Array Oper) : List Oper → Option (List VOper)
  | [] => some []
  | o :: rest => match slimOper P glob nt ops o, slimOpers P glob nt ops rest with
    | some v, some vs => some (v :: vs)
    | _, _ => none

def firstWrite : List VOper → Nat
  | [] => 0
  | o :: rest => if writes o.op then 0 else firstWrite rest + 1

def isLoad : VOp → Bool
  | .load .. => true
  | _ => false
def isStore : VOp → Bool
  | .store .. => true
  | .x (.mput _ _) _ => true
  | _ => false

/-- operation k waits for operation i, perhaps by way of others -/
def wtB (ops : Array Oper) : Nat → Nat → Nat → Bool
  | 0, k, i => Region.waitsFor .any ops k i
  | d + 1, k, i => Region.waitsFor .any ops k i || match ops[k]? with
    | some o => o.after.toList.any fun e => decide (i < e.on) && (Region.binds .any e && wtB ops d e.on i)
    | none => false
inductive Wt (ops : Array Oper) (i : Nat) : Nat → Prop
  | one {k : Nat} : Region.waitsFor .any ops k i = true → Wt ops i k
  | more {k j : Nat} : Region.waitsFor .any ops k j = true → Wt ops i j → Wt ops i k
theorem wtB_spec {ops : Array Oper} {i : Nat} : ∀ {d k : Nat}, wtB ops d k i = true → Wt ops i k
  | 0, k, h => .one h
  | d + 1, k, h => by
    simp only [wtB, Bool.or_eq_true] at h
    rcases h with h | h
    · exact .one h
    · split at h
      · rename_i o ho
        rw [List.any_eq_true] at h
        obtain ⟨e, he, h2⟩ := h
        simp only [Bool.and_eq_true, decide_eq_true_eq] at h2
        refine .more (j := e.on) ?_ (wtB_spec h2.2.2)
        unfold Region.waitsFor
        rw [ho]
        exact Array.any_eq_true'.2 ⟨e, by simpa using he, by simp [h2.2.1]⟩
      · cases h
/-- of operation k: which earlier ones may clash with it, and it does not wait for them -/
def lateOf (ops : Array Oper) (vops : List VOper) (k : Nat) (o : VOp) : List Nat :=
  if isLoad o || isStore o || happ o then
    (List.range k).filter fun j => match vops[j]? with
      | some p => (isStore p.op || ((isStore o || happ o) && (isLoad p.op || htouch p.op))) && (!Region.waitsFor .any ops k j && !wtB ops 7 k j)
      | none => false
  else []

def withLate (ops : Array Oper) (vops : List VOper) : Nat → List VOper → List VOper
  | _, [] => []
  | k, o :: rest => ⟨o.dst, o.op, o.guard, lateOf ops vops k o.op⟩ :: withLate ops vops (k + 1) rest

/-- a store whose address is surely one of the heap: by the text -/
def heapAddr (glob : List Nat) (vops : List VOper) : Nat → Opd → Bool
  | 0, _ => false
  | d + 1, .t n => glob.contains (2000000 + n) || vops.any fun p => p.dst == some n && (match p.op with
    | .iaddrS .. => true
    | .load .. => true
    | .faddr _ x => heapAddr glob vops d x
    | .iaddrA _ _ x _ => heapAddr glob vops d x
    | _ => false)
  | _, _ => false
def heapStore (glob : List Nat) (vops : List VOper) (o : VOper) : Bool :=
  match o.op with
  | .store _ a _ => heapAddr glob vops 6 a
  | .append .. => true
  | .x (.mput _ _) _ => true
  | _ => false

/-- how long the head of a drawn region is -/
def cutOk (ops : Array Oper) (n : Nat) : Bool := decide (n < ops.size) && Region.sinkB .any ops n && Region.chainB .any ops n
/-- the region ends in a call -/
def endsCall (vops : List VOper) : Bool := match vops.getLast? with
  | some o => match o.op with
    | .call .. => true
    | .callV .. => true
    | _ => false
  | none => false
/-- the place of the last call -/
def lastCall (vops : List VOper) : Nat := (List.range vops.length).foldl (fun k i => match vops[i]? with
  | some o => match o.op with
    | .call .. => i
    | _ => k
  | none => k) vops.length
/-- a call just before the place n -/
def callAt (vops : List VOper) (n : Nat) : Bool := match vops[n - 1]? with
  | some o => match o.op with
    | .call .. => o.guard.isNone
    | _ => false
  | none => false
def headLen (ops : Array Oper) (vops : List VOper) : Nat :=
  if callAt vops (firstWrite vops) && cutOk ops (firstWrite vops - 1) then firstWrite vops - 1 else if cutOk ops (firstWrite vops) then firstWrite vops else if endsCall vops && cutOk ops (ops.size - 1) then ops.size - 1 else if cutOk ops (lastCall vops) then lastCall vops else ops.size

/-- the entry of a map that a region makes: how its keys are compared, its zero, and the places of the map and of the key -/
abbrev EntP := Bool × List CK × IntKind × Int × Nat × Nat
def isEnt : VOp → Option EntP
  | .x (.ment g ks (.int k z)) [.t m, .t c] => some (g, ks, k, z, m, c)
  | _ => none
/-- an operation that does not mind whether the entry is there -/
def quietOp (p : EntP) : VOp → Bool
  | .move _ | .faddr .. | .bin .. | .ext .. | .load .. => true
  | .x (.mget g ks false (.int k z)) [.t m, .t c] => decide ((g, ks, k, z, m, c) = p)
  | _ => false
def isMget : VOp → Bool
  | .x (.mget ..) _ => true
  | _ => false
def entAt : List VOper → Option (Nat × EntP)
  | [] => none
  | o :: r => match isEnt o.op with
    | some p => some (0, p)
    | none => match entAt r with
      | some q => some (q.1 + 1, q.2)
      | none => none
def quietAt (p : EntP) (e : Nat) (vops : List VOper) (i : Nat) : Bool :=
  match vops[i]? with
  | some o => o.guard.isNone && (i == e || quietOp p o.op)
  | none => false
/-- the map and the key stand when the entry is made or looked up -/
def earlyAt (p : EntP) (e : Nat) (vops : List VOper) (n j : Nat) : Bool :=
  match vops[j]? with
  | some o => !(o.dst == some p.2.2.2.2.1 || o.dst == some p.2.2.2.2.2) || (List.range n).all fun i => match vops[i]? with
    | some u => !(i == e || isMget u.op) || decide (j < i)
    | none => true
  | none => true
/-- a region that makes an entry and stores into it: in whatever order, the same comes out -/
def incOk (ops : Array Oper) (vops : List VOper) : Bool :=
  match entAt vops with
  | none => false
  | some (e, p) => decide (e < ops.size - 1) && (Region.sinkB .any ops (ops.size - 1) && (Region.chainB .any ops (ops.size - 1) &&
    (((List.range (ops.size - 1)).all (quietAt p e vops)) && ((List.range (ops.size - 1)).all (earlyAt p e vops (ops.size - 1))))))

/-- the loops over functions in a piece of code -/
def rsOf : Code → List (Array Tmp × Code × Code)
  | .rangeFunc _ ps asg bd => [(ps, asg, bd)]
  | .seq a b => rsOf a ++ rsOf b
  | .cond _ a b => rsOf a ++ rsOf b
  | .block _ c => rsOf c
  | .loop c => rsOf c
  | .scope c => rsOf c
  | _ => []
/-- the number of the round's code, among a function's marks -/
def rMark (glob : List Nat) : Option Nat := glob.find? fun g => decide (rB ≤ g)
/-- what the number of a round's code stands for -/
def rdAt (k : Nat) (P : Program) (f : FuncId) : Option (Array Tmp × Code × Code) :=
  if k ≤ f then match P.funcs[f - k]? with
    | some fn => match fn.body with
      | some c => match rsOf c with
        | [t] => some t
        | _ => none
      | none => none
    | none => none
  else none
def rdOf (P : Program) (f : FuncId) : Option (Array Tmp × Code × Code) := rdAt rB P f
theorem rdAt_add {k : Nat} {P : Program} {f : FuncId} {fn : Func} {c : Code} (hfn : P.funcs[f]? = some fn) (hbody : fn.body = some c) {t : Array Tmp × Code × Code} (h : (rdAt k P (k + f)).isSome = true) (ht : t ∈ rsOf c) : rdAt k P (k + f) = some t := by
  unfold rdAt at h ⊢
  rw [if_pos (Nat.le_add_right ..)] at h ⊢
  rw [Nat.add_sub_cancel_left] at h ⊢
  simp only [hfn, hbody] at h ⊢
  cases hr : rsOf c with
  | nil => rw [hr] at ht; cases ht
  | cons t0 l =>
    cases l with
    | nil =>
      rw [hr] at ht
      simp only [List.mem_singleton] at ht
      subst ht; rfl
    | cons _ _ => rw [hr] at h; cases h
theorem rdAt_le {k : Nat} {P : Program} {f : FuncId} {t : Array Tmp × Code × Code} (h : rdAt k P f = some t) : k ≤ f := by
  unfold rdAt at h
  split at h
  · assumption
  · cases h
def slimCode (P : Program) (glob : List Nat) (nt : Nat) : Code → Option VCode
  | .skip => some .skip
  | .label _ => some .skip
  | .region _ ops draw => match slimOpers P glob nt ops ops.toList with
    | some vops =>
      if draw then
        if Region.lexB .any ops then
          some (if incOk ops vops then .reg vops else if (vops.take (headLen ops vops)).any (heapStore glob vops) then .drawS (withLate ops vops 0 (vops.take (headLen ops vops))) (vops.drop (headLen ops vops))
            else .draw (withLate ops vops 0 (vops.take (headLen ops vops))) (vops.drop (headLen ops vops))) else some .stuck
      else some (.reg vops)
    | none => some .stuck
  | .seq a b => match slimCode P glob nt a, slimCode P glob nt b with
    | some a, some b => some (.seq a b)
    | _, _ => none
  | .cond c a b => match slimOpd c, slimCode P glob nt a, slimCode P glob nt b with
    | some c, some a, some b => some (.cond c a b)
    | _, _, _ => some .stuck
  | .block id body => (slimCode P glob nt body).map (.block id)
  | .loop body => (slimCode P glob nt body).map .loop
  | .scope body => (slimCode P glob nt body).map .scope
  | .exit id => some (.exit id)
  | .ret => some .ret
  | .rangeFunc g ps _ _ => match slimOpd g, rMark glob with
    | some g, some f => some (.rangeF g f ps.toList nt)
    | _, _ => some .stuck
  | _ => some .stuck

def slimRes (P : Program) (wk : Bool) : List ResultVar → Option (List VRes)
  | [] => some []
  | .tmp t :: rest => (slimRes P wk rest).map ((if wk then .weak t else .tmp t) :: ·)
  | .cell a t :: rest => match aggOf P t, slimRes P wk rest with
    | some g, some vs => some (.cell a g :: vs)
    | _, _ => none

def slimFn (P : Program) (glob : List Nat) (fn : Func) : Option VFn :=
  match fn.body with
  | none => none
  | some c =>
    if fn.params.size + fn.nfree ≤ fn.ntmps ∧ fn.name ≠ "runtime.NumGoroutine" then
      match slimRes P (capR glob) fn.results.toList, slimCode P glob fn.ntmps c with
      | some rs, some vc => some ⟨fn.params.size + fn.nfree, rs, vc⟩
      | _, _ => none
    else none

/-- a function that holds no loop over a function -/
def noRd (fn : Func) : Bool := match fn.body with
  | none => true
  | some c => (rsOf c).isEmpty
/-- the round of a function's one loop over a function -/
def slimRd (P : Program) (glob : List Nat) (f : FuncId) (fn : Func) : Option VFn :=
  match rdOf P f with
  | some (_, asg, bd) =>
    if (rsOf asg).isEmpty && (rsOf bd).isEmpty then
      match slimCode P glob fn.ntmps asg, slimCode P glob fn.ntmps bd with
      | some a, some b => some ⟨fn.ntmps, [], .seq a b⟩
      | _, _ => none
    else none
  | none => none

end Go.Proofs.YtpdnbmnnkefedaaGreatDoor.Vm
