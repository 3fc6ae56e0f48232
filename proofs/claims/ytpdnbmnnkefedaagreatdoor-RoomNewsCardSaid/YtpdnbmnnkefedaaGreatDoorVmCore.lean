/- The small machine: slim code, virtual values, evaluation in the order of the text, with fuel. No program is named here. -/
import GoSem.Machine.Frame
import GoSem.Dispatch
import GoSem.Core.Utf8
namespace Go.Proofs.YtpdnbmnnkefedaaGreatDoor.Vm
open Go
set_option linter.unusedVariables false

/-- Virtual values. 'ptr', 'sl' speak of blocks of the virtual heap; 'lp' of a variable of the activation itself. -/
inductive V where
  | bool (b : Bool) | int (k : IntKind) (n : Int) | str (s : ByteArray)
  | pnil | ptr (b off : Nat) | lp (id off : Nat)
  | snil | sl (b off len sz : Nat) | sempty
  | func (fn : Fn) (first cap : List V) | fnil
  | iface (t : TypeId) (v : V) | inil
  | agg (cs : List V) | tup (vs : List V)
  | mp (b : Nat) | slc (b off len sz cap : Nat) | szero
  | yl (b : Nat) | hid | mnil
  | it (b : Nat)
  | opq (x : Value)
  deriving Inhabited

abbrev dv : V := .tup []

/-- a value of one cell -/
def scal : V → Bool
  | .agg _ | .tup _ | .lp _ _ | .hid => false
  | _ => true
/-- a value that may be stored, handed on, held -/
def stor : V → Bool
  | .tup _ | .lp _ _ | .hid => false
  | _ => true
def cellsV : V → List V
  | .agg cs => cs
  | v => [v]

inductive Blk where
  | row (cs : List V) (own : Bool)
  | dead
  | map (es : List (V × V))
  | loop (f : FuncId) (ps : List Nat) (fr : List V)
  | sit (s : ByteArray) (pos : Nat)
  deriving Inhabited
abbrev Hp := List Blk
abbrev Lo := List (List V)
abbrev Fr := Nat → V

inductive Opd where
  | t (n : Nat)
  | c (v : V)
  deriving Inhabited

/-- what a cell of a comparable struct holds -/
inductive CK where
  | int (k : IntKind) | bool | str
  deriving Inhabited, DecidableEq

/-- operations that look at values and at the heap alone: maps; slices whose room is known -/
inductive XOp where
  | mkm
  | mget (agg : Bool) (ks : List CK) (ok : Bool) (zero : V)
  | mput (agg : Bool) (ks : List CK)
  | lenM
  | slC (sz : Nat) (lo hi : Bool)
  | apc (wk : Bool) (sz bytes : Nat)
  | bs0
  | ap0 (sz bytes : Nat)
  | capN
  | apz (sz bytes : Nat) (zero : List V)
  | ment (agg : Bool) (ks : List CK) (zero : V)
  | mest
  | maxL
  | rgS
  | nxS
  | strB
  | strR
  | strRs
  | wk
  | inilT (neg : Bool)
  | pnilT (neg : Bool)
  | mkI (t : Nat)
  | unI (t : Nat)
  | ask (q : List V → List Blk → Bool)
  | pan
  deriving Inhabited
/-- leaves the heap alone, and does not look into it -/
def xfree : XOp → Bool
  | .slC .. | .bs0 | .capN | .maxL | .strR | .wk | .inilT .. | .pnilT .. | .mkI .. | .unI .. => true
  | _ => false
/-- may write what was there -/
def xwrite : XOp → Bool
  | .mput .. | .apc .. | .ment .. | .mest | .nxS => true
  | _ => false

inductive VOp where
  | move (x : Opd)
  | pick (c a b : Opd)
  | new (loc : Bool) (zero : List V)
  | box (loc : Bool) (x : Opd)
  | build (zero : List V) (parts : List (Nat × Nat × Opd))
  | bslice (sz len : Nat) (zero : List V) (parts : List (Nat × Nat × Opd))
  | mks (sz bytes : Nat) (zero : List V) (len cap : Opd)
  | load (agg : Option Nat) (a : Opd)
  | store (size : Nat) (a x : Opd)
  | bin (op : BinOp) (x y : Opd)
  | eqB (neg : Bool) (x y : Opd)
  | eqA (neg : Bool) (kinds : List CK) (x y : Opd)
  | un (op : UnOp) (x : Opd)
  | faddr (off : Nat) (x : Opd)
  | iaddrA (len sz : Nat) (x i : Opd)
  | iaddrS (sz : Nat) (x i : Opd)
  | idxA (len sz : Nat) (agg : Option Nat) (x i : Opd)
  | idxT (x i : Opd)
  | field (off : Nat) (agg : Option Nat) (x : Opd)
  | ext (x : Opd) (i : Nat)
  | conv (k : IntKind) (x : Opd)
  | slA (len sz : Nat) (x : Opd) (lo hi : Option Opd)
  | slS (sz : Nat) (x : Opd) (lo hi : Option Opd)
  | slT (x : Opd) (lo hi : Option Opd)
  | call (f : FuncId) (args : List Opd)
  | lenS (x : Opd) | lenT (x : Opd) | lenA (n : Nat)
  | append (sz bytes : Nat) (x y : Opd)
  | copy (sz : Nat) (d s : Opd)
  | max2 (x y : Opd) | min2 (x y : Opd)
  | max3 (x y z : Opd) | min3 (x y z : Opd)
  | nilc (x : Opd)
  | mkf (f : FuncId) (first cap : List Opd)
  | callV (x : Opd) (args : List Opd)
  | clr (sz : Nat) (zero : List V) (x : Opd)
  | slS3 (sz : Nat) (x : Opd) (lo hi : Option Opd) (mx : Opd)
  | eqN (neg : Bool) (x : Opd)
  | bytes (x : Opd)
  | x (k : XOp) (args : List Opd)
  | stuck
  deriving Inhabited

structure VOper where
  dst : Option Nat
  op : VOp
  guard : Option (Nat × Bool)
  late : List Nat
  deriving Inhabited

inductive VCode where
  | skip
  | reg (ops : List VOper)
  | draw (head tail : List VOper)
  | drawS (head tail : List VOper)
  | seq (a b : VCode)
  | cond (c : Opd) (a b : VCode)
  | block (id : Nat) (body : VCode)
  | loop (body : VCode)
  | scope (body : VCode)
  | exit (id : Nat)
  | ret
  | stuck
  | rangeF (g : Opd) (f : FuncId) (ps : List Nat) (nt : Nat)
  | prim (g : List V → Hp → Option (V × List Blk))
  deriving Inhabited
/-- a function whose contract is given: what it answers, and which blocks are new -/
abbrev PrimF := List V → Hp → Option (V × List Blk)
def primOf : VCode → Option PrimF
  | .prim g => some g
  | _ => none

inductive VRes where
  | tmp (t : Nat)
  | weak (t : Nat)
  | cell (t : Nat) (agg : Option Nat)
  deriving Inhabited

structure VFn where
  nparams : Nat
  results : List VRes
  body : VCode
  deriving Inhabited

def upd (fr : Fr) (t : Nat) (v : V) : Fr := fun s => if s = t then v else fr s
def putD (fr : Fr) : Option Nat → V → Fr
  | none, _ => fr
  | some t, v => upd fr t v
def opd (fr : Fr) : Opd → V
  | .t n => fr n
  | .c v => v
def opdO (fr : Fr) : Option Opd → Option V
  | none => none
  | some x => some (opd fr x)

/-- the cells from 'off' on become 'xs' -/
def splice (cs : List V) (off : Nat) (xs : List V) : List V := cs.take off ++ xs ++ cs.drop (off + xs.length)

def rd (agg : Option Nat) (cs : List V) (off : Nat) : Option V :=
  match agg with
  | none => if off < cs.length then some (cs.getD off dv) else none
  | some n => if off + n ≤ cs.length then some (.agg ((cs.drop off).take n)) else none

def vload (agg : Option Nat) (L : Lo) (H : Hp) : V → Option V
  | .ptr b off => match H[b]? with
    | some (.row cs _) => rd agg cs off
    | _ => none
  | .lp id off => match L[id]? with
    | some cs => rd agg cs off
    | none => none
  | _ => none

def vstoreH (lim : Nat) (H : Hp) (b off : Nat) (xs : List V) : Option Hp :=
  if lim ≤ b then
    match H[b]? with
    | some (.row cs true) => if off + xs.length ≤ cs.length then some (H.set b (.row (splice cs off xs) true)) else none
    | _ => none
  else none

def vstore (lim : Nat) (L : Lo) (H : Hp) (a : V) (x : V) (size : Nat) : Option (Lo × Hp) :=
  if stor x then
    if (cellsV x).length = size then
      match a with
      | .ptr b off => match vstoreH lim H b off (cellsV x) with
        | some H' => some (L, H')
        | none => none
      | .lp id off => match L[id]? with
        | some cs => if off + size ≤ cs.length then some (L.set id (splice cs off (cellsV x)), H) else none
        | none => none
      | _ => none
    else none
  else none

def vfill : List V → List (Nat × Nat × V) → Option (List V)
  | cs, [] => some cs
  | cs, (off, size, v) :: rest =>
    if stor v then
      if (cellsV v).length = size then
        if off + size ≤ cs.length then vfill (splice cs off (cellsV v)) rest else none
      else none
    else none

def opdP (fr : Fr) : List (Nat × Nat × Opd) → List (Nat × Nat × V)
  | [] => []
  | (o, s, x) :: rest => (o, s, opd fr x) :: opdP fr rest
def opds (fr : Fr) : List Opd → List V
  | [] => []
  | x :: rest => opd fr x :: opds fr rest
def allStor : List V → Bool
  | [] => true
  | v :: rest => stor v && allStor rest

def vshift (op : BinOp) (k : IntKind) (a b : Int) : Option V :=
  match op with
  | .shl => if b < 0 then none else some (.int k (k.wrap (a * 2 ^ (min b.toNat k.bits))))
  | .shr => if b < 0 then none else some (.int k (a.fdiv (2 ^ (min b.toNat k.bits))))
  | _ => none
def isShift : BinOp → Bool
  | .shl | .shr => true
  | _ => false
def vbin (op : BinOp) : V → V → Option V
  | .int k a, .int k' b =>
    if isShift op then vshift op k a b else
    if k = k' then
      match op with
      | .and => some (.int k (k.wrap (BitVec.ofInt k.bits a &&& BitVec.ofInt k.bits b).toNat))
      | .or => some (.int k (k.wrap (BitVec.ofInt k.bits a ||| BitVec.ofInt k.bits b).toNat))
      | .xor => some (.int k (k.wrap (BitVec.ofInt k.bits a ^^^ BitVec.ofInt k.bits b).toNat))
      | .andNot => some (.int k (k.wrap (BitVec.ofInt k.bits a &&& ~~~(BitVec.ofInt k.bits b)).toNat))
      | .add => some (.int k (k.wrap (a + b)))
      | .sub => some (.int k (k.wrap (a - b)))
      | .mul => some (.int k (k.wrap (a * b)))
      | .quo => if b = 0 then none else some (.int k (k.wrap (a.tdiv b)))
      | .rem => if b = 0 then none else some (.int k (a.tmod b))
      | .eql => some (.bool (a == b))
      | .neq => some (.bool (a != b))
      | .lss => some (.bool (a < b))
      | .leq => some (.bool (a ≤ b))
      | .gtr => some (.bool (a > b))
      | .geq => some (.bool (a ≥ b))
      | _ => none
    else none
  | .str a, .str b =>
    match op with
    | .add => if a.size + b.size ≤ 4611686018427387904 then some (.str (a ++ b)) else none
    | .eql => some (.bool (a.toList == b.toList))
    | .neq => some (.bool (!(a.toList == b.toList)))
    | .lss => some (.bool (Op.bytesLess a.toList b.toList))
    | .leq => some (.bool (Op.bytesLess a.toList b.toList || a.toList == b.toList))
    | .gtr => some (.bool (!(Op.bytesLess a.toList b.toList || a.toList == b.toList)))
    | .geq => some (.bool (!(Op.bytesLess a.toList b.toList)))
    | _ => none
  | _, _ => none

/-- equality of cells that are numbers, bools and texts -/
def eqCell : CK → V → V → Option Bool
  | .int k, .int k1 a, .int k2 b => if k1 = k ∧ k2 = k then some (a == b) else none
  | .bool, .bool a, .bool b => some (a == b)
  | .str, .str a, .str b => some (a == b)
  | _, _, _ => none
def eqCells : List CK → List V → List V → Option Bool
  | [], [], [] => some true
  | k :: ks, x :: xs, y :: ys => match eqCell k x y, eqCells ks xs ys with
    | some a, some b => some (a && b)
    | _, _ => none
  | _, _, _ => none

def vun (op : UnOp) : V → Option V
  | .int k n => match op with
    | .neg => some (.int k (k.wrap (0 - n)))
    | _ => none
  | .bool b => match op with
    | .not => some (.bool !b)
    | _ => none
  | _ => none

def vfaddr (off : Nat) : V → Option V
  | .ptr b o => some (.ptr b (o + off))
  | .lp i o => some (.lp i (o + off))
  | _ => none

def vint : V → Option Int
  | .int _ n => some n
  | _ => none

def viaddrA (len sz : Nat) (x i : V) : Option V :=
  match vint i with
  | some n => if 0 ≤ n ∧ n < len then vfaddr (n.toNat * sz) x else none
  | none => none

def viaddrS (sz : Nat) (x i : V) : Option V :=
  match x, vint i with
  | .sl b off len sz', some n => if sz' = sz then if 0 ≤ n ∧ n < len then some (.ptr b (off + n.toNat * sz)) else none else none
  | _, _ => none

def vidxT (x i : V) : Option V :=
  match x, vint i with
  | .str s, some n => if 0 ≤ n ∧ n < s.size then some (.int .u8 (s.data.getD n.toNat 0).toNat) else none
  | _, _ => none

def vfield (off : Nat) (agg : Option Nat) : V → Option V
  | .agg cs => rd agg cs off
  | _ => none

def vidxA (len sz : Nat) (agg : Option Nat) (x i : V) : Option V :=
  match vint i with
  | some n => if 0 ≤ n ∧ n < len then vfield (n.toNat * sz) agg x else none
  | none => none

def vext (i : Nat) : V → Option V
  | .tup vs => vs[i]?
  | _ => none

def vconv (k : IntKind) : V → Option V
  | .int _ n => some (.int k (k.wrap n))
  | _ => none

/-- bounds of a slice expression: low and high, of a thing with so many elements -/
def vbounds (len : Nat) (lo hi : Option V) : Option (Nat × Nat) :=
  match (match hi with | none => some (len : Int) | some v => vint v) with
  | none => none
  | some h =>
    if 0 ≤ h ∧ h ≤ len then
      match (match lo with | none => some (0 : Int) | some v => vint v) with
      | none => none
      | some l => if 0 ≤ l ∧ l ≤ h then some (l.toNat, h.toNat) else none
    else none

def vslS (sz : Nat) (x : V) (lo hi : Option V) : Option V :=
  match x with
  | .snil => match vbounds 0 lo hi with
    | some _ => some .snil
    | none => none
  | .sl b off len sz' =>
    if sz' = sz then
      match vbounds len lo hi with
      | some (l, h) => if l = 0 then some (.sl b off h sz) else if l = h then some .sempty else some (.sl b (off + l * sz) (h - l) sz)
      | none => none
    else none
  | _ => none

/-- an array's slice: whole arrays of the virtual heap alone -/
def vslA (len sz : Nat) (H : Hp) (x : V) (lo hi : Option V) : Option V :=
  match x with
  | .ptr b off =>
    match H[b]? with
    | some (.row cs _) =>
      if off + len * sz ≤ cs.length then
        match vbounds len lo hi with
        | some (l, h) => if l = 0 then some (.sl b off h sz) else if l = h then some .sempty else some (.sl b (off + l * sz) (h - l) sz)
        | none => none
      else none
    | _ => none
  | _ => none

def vslT (x : V) (lo hi : Option V) : Option V :=
  match x with
  | .str s => match vbounds s.size lo hi with
    | some (l, h) => some (.str (s.extract l h))
    | none => none
  | _ => none

def vlenS : V → Option V
  | .snil | .sempty => some (.int .i64 0)
  | .sl _ _ len _ => some (.int .i64 len)
  | .slc _ _ len _ _ => some (.int .i64 len)
  | .szero => some (.int .i64 0)
  | _ => none
def vlenT : V → Option V
  | .str s => some (.int .i64 s.size)
  | _ => none

/-- the cells that a slice or a text has -/
def vcells (sz : Nat) (H : Hp) : V → Option (List V)
  | .snil | .sempty => some []
  | .sl b off len sz' =>
    if sz' = sz then
      match H[b]? with
      | some (.row cs _) => if off + len * sz ≤ cs.length then some ((cs.drop off).take (len * sz)) else none
      | _ => none
    else none
  | _ => none

/-- append: nothing is appended; to nil: a new row; to a whole row of one's own: a new row, and the old one is dead. -/
def vappend (lim sz bytes : Nat) (H : Hp) (x y : V) : Option (V × Hp) :=
  match vcells sz H y, vlenS y with
  | some new, some (.int _ k) =>
    match x with
    | .snil =>
      if k = 0 then some (.snil, H)
      else if k.toNat * bytes ≤ 140737488355328 then if k.toNat < 4611686018427387904 then some (.sl H.length 0 k.toNat sz, H ++ [.row new true]) else none else none
    | .sl b off len sz' =>
      if sz' = sz ∧ off = 0 ∧ lim ≤ b then
        match H[b]? with
        | some (.row cs true) =>
          if cs.length = len * sz then
            if (len + k.toNat) * bytes ≤ 140737488355328 then if len + k.toNat < 4611686018427387904 then some (.sl H.length 0 (len + k.toNat) sz, (H.set b .dead) ++ [.row (cs ++ new) true]) else none else none
          else none
        | _ => none
      else none
    | .szero =>
      if k = 0 then some (.szero, H)
      else if k.toNat * bytes ≤ 140737488355328 then if k.toNat < 4611686018427387904 then some (.sl H.length 0 k.toNat sz, H ++ [.row new true]) else none else none
    | _ => none
  | _, _ => none

/-- copy: into a row of one's own, from a slice -/
def vcopy (lim sz : Nat) (H : Hp) (d s : V) : Option (V × Hp) :=
  match vlenS s, vlenS d with
  | some (.int _ n), some (.int _ m) =>
    match vcells sz H s with
    | some cs =>
      if (min n.toNat m.toNat) = 0 then some (.int .i64 0, H)
      else
        match d with
        | .sl b off len sz' =>
          if sz' = sz then
            match vstoreH lim H b off (cs.take (min n.toNat m.toNat * sz)) with
            | some H' => some (.int .i64 (min n.toNat m.toNat : Nat), H')
            | none => none
          else none
        | _ => none
    | none => none
  | _, _ => none

/-- a value that a nil check lets pass -/
def vnilc : V → Option V
  | .ptr b o => some (.ptr b o)
  | .lp i o => some (.lp i o)
  | .func (.func f) fs cs => some (.func (.func f) fs cs)
  | _ => none
/-- whether a value is nil -/
def vnull : V → Option Bool
  | .snil => some true
  | .sl .. | .sempty => some false
  | _ => none
def veqN (neg : Bool) (x : V) : Option V :=
  match vnull x with
  | some b => some (.bool (if neg then !b else b))
  | none => none
/-- a slice with a third bound -/
def vslS3 (sz : Nat) (x : V) (lo hi : Option V) (mx : V) : Option V :=
  match x, vint mx with
  | .sl b off len sz', some m =>
    if sz' = sz ∧ 0 ≤ m ∧ m ≤ len then
      match hi with
      | none => none
      | some hi' =>
        match vbounds m.toNat lo (some hi') with
        | some (l, h) => if l = 0 then some (.sl b off h sz) else if l = h then some .sempty else some (.sl b (off + l * sz) (h - l) sz)
        | none => none
    else none
  | .snil, some m =>
    if m = 0 then
      match hi with
      | none => none
      | some hi' =>
        match vbounds 0 lo (some hi') with
        | some _ => some .snil
        | none => none
    else none
  | _, _ => none
def vmax3 : V → V → V → Option V
  | .int k a, .int _ b, .int _ c => some (.int k (max (max a b) c))
  | _, _, _ => none
def vmin3 : V → V → V → Option V
  | .int k a, .int _ b, .int _ c => some (.int k (min (min a b) c))
  | _, _, _ => none
/-- the number of a round; from rB on: codes of rounds -/
def yB : FuncId := 3999999
def rB : FuncId := 4000000
/-- what a function value calls -/
def vtarget : V → List V → Option (FuncId × List V)
  | .func (.func f) fs cs, args => if f = yB then none else some (f, fs ++ args ++ cs)
  | .yl b, args => some (yB, .yl b :: args)
  | _, _ => none

/-- the bytes of a text, as cells -/
def vbytesL (s : ByteArray) : List V := s.data.toList.map fun b => .int .u8 b.toNat
/-- a row of so many elements -/
def rowOf (len : Nat) : List V → List V
  | z => (List.replicate len z).flatten

/-- clear: of a slice whose row is one's own -/
def vclr (lim sz : Nat) (zero : List V) (H : Hp) : V → Option Hp
  | .snil | .sempty => some H
  | .sl b off len sz' => if sz' = sz ∧ zero.length = sz then if len = 0 then some H else vstoreH lim H b off (rowOf len zero) else none
  | _ => none

/-- a key of a map: a struct, an array, or one cell -/
def isAggV : V → Bool
  | .agg _ => true
  | _ => false
def keyOk (agg : Bool) (ks : List CK) (k : V) : Bool := isAggV k == agg && stor k && (eqCells ks (cellsV k) (cellsV k)).isSome
/-- where a key stands, and what it leads to -/
def mfind (ks : List CK) (k : V) : List (V × V) → Option (Option (Nat × V))
  | [] => some none
  | (k', v) :: rest => match (if isAggV k == isAggV k' then eqCells ks (cellsV k) (cellsV k') else none) with
    | some true => some (some (0, v))
    | some false => match mfind ks k rest with
      | some (some (i, u)) => some (some (i + 1, u))
      | r => r
    | none => none
def vmget (agg : Bool) (ks : List CK) (ok : Bool) (zero : V) (H : Hp) : V → V → Option V
  | .mp b, k => match H[b]? with
    | some (.map es) =>
      if keyOk agg ks k then
        match mfind ks k es with
        | some (some (_, v)) => some (if ok then .tup [v, .bool true] else v)
        | some none => some (if ok then .tup [zero, .bool false] else zero)
        | none => none
      else none
    | _ => none
  | _, _ => none
def vmput (lim : Nat) (agg : Bool) (ks : List CK) (H : Hp) : V → V → V → Option Hp
  | .mp b, k, v =>
    if lim ≤ b then
      match H[b]? with
      | some (.map es) =>
        if keyOk agg ks k && stor v then
          match mfind ks k es with
          | some (some (i, _)) => some (H.set b (.map (es.set i (k, v))))
          | some none => some (H.set b (.map (es ++ [(k, v)])))
          | none => none
        else none
      | _ => none
    else none
  | _, _, _ => none
/-- the entry of a key, made if it is lacking: what it leads to, and its number -/
def vment (lim : Nat) (agg : Bool) (ks : List CK) (zero : V) (H : Hp) : V → V → Option (V × Hp)
  | .mp b, k =>
    if lim ≤ b then
      match H[b]? with
      | some (.map es) =>
        if keyOk agg ks k && stor zero then
          match mfind ks k es with
          | some (some (i, v)) => some (.tup [v, .int .i64 i], H.set b (.map (es.set i (k, v))))
          | some none => some (.tup [zero, .int .i64 es.length], H.set b (.map (es ++ [(k, zero)])))
          | none => none
        else none
      | _ => none
    else none
  | _, _ => none
/-- an entry leads elsewhere -/
def vmest (lim : Nat) (H : Hp) : V → V → V → Option Hp
  | .mp b, .int _ n, v =>
    if lim ≤ b ∧ 0 ≤ n then
      match H[b]? with
      | some (.map es) =>
        if stor v then
          match es[n.toNat]? with
          | some (k, _) => some (H.set b (.map (es.set n.toNat (k, v))))
          | none => none
        else none
      | _ => none
    else none
  | _, _, _ => none
def vlenM (H : Hp) : V → Option V
  | .mp b => match H[b]? with
    | some (.map es) => some (.int .i64 es.length)
    | _ => none
  | _ => none
/-- a slice that reaches so far -/
def mkslc (b off len sz cap : Nat) : V := if len = cap then .sl b off len sz else .slc b off len sz cap
/-- a slice expression that keeps what is known of the room -/
def vslC (sz : Nat) (x : V) (lo hi : Option V) : Option V :=
  match x with
  | .snil => match vbounds 0 lo hi with
    | some _ => some .snil
    | none => none
  | .sl b off len sz' =>
    if sz' = sz then
      match vbounds len lo hi with
      | some (l, h) => if l = 0 then some (mkslc b off h sz len) else if l = len then some .sempty else some (mkslc b (off + l * sz) (h - l) sz (len - l))
      | none => none
    else none
  | .slc b off len sz' cap =>
    if sz' = sz then
      match hi with
      | none => none
      | some hi' => match vbounds cap lo (some hi') with
        | some (l, h) => if l = 0 then some (mkslc b off h sz cap) else if l = cap then some .sempty else some (mkslc b (off + l * sz) (h - l) sz (cap - l))
        | none => none
    else none
  | _ => none
/-- append, where the room may be known: then it is written in place -/
def vappC (wk : Bool) (lim sz bytes : Nat) (H : Hp) (x y : V) : Option (V × Hp) :=
  match x with
  | .slc b off len sz' cap => match vcells sz H y, vlenS y with
    | some new, some (.int _ k) =>
      if sz' = sz ∧ len + k.toNat ≤ cap then
        match (if k = 0 then some H else vstoreH lim H b (off + len * sz) new) with
        | some H' => some (if wk then .sl b off (len + k.toNat) sz else mkslc b off (len + k.toNat) sz cap, H')
        | none => none
      else none
    | _, _ => none
  | x => vappend lim sz bytes H x y
/-- append to a slice without room, or to nil: a new row -/
def vapp0 (sz bytes : Nat) (H : Hp) (x y : V) : Option (V × Hp) :=
  match x with
  | .szero => match vcells sz H y, vlenS y with
    | some new, some (.int _ k) =>
      if k = 0 then some (.sempty, H)
      else if k.toNat * bytes ≤ 140737488355328 then if k.toNat < 4611686018427387904 then some (.sl H.length 0 k.toNat sz, H ++ [.row new true]) else none else none
    | _, _ => none
  | _ => none
/-- the room of nil -/
def vcapN : V → Option V
  | .snil => some (.int .i64 0)
  | _ => none
/-- append of zeros to nil -/
def vappz (sz bytes : Nat) (zero : List V) (H : Hp) (x n : V) : Option (V × Hp) :=
  match x, n with
  | .snil, .int _ k =>
    if k = 0 then some (.snil, H)
    else if 0 ≤ k ∧ zero.length = sz ∧ k.toNat * bytes ≤ 140737488355328 ∧ k < 4611686018427387904 then some (.sl H.length 0 k.toNat sz, H ++ [.row (rowOf k.toNat zero) true]) else none
  | _, _ => none
/-- the greatest of more than three -/
def vmaxL : List V → Option V
  | [.int k a, .int _ b, .int _ c, .int _ d] => some (.int k (max (max (max a b) c) d))
  | _ => none
/-- the next letter of a text -/
def vnext (lim : Nat) (H : Hp) : V → Option (V × Hp)
  | .it b =>
    if lim ≤ b then
      match H[b]? with
      | some (.sit s p) =>
        if p < s.size then some (.tup [.bool true, .int .i64 p, .int .i32 (Utf8.decode s p).1], H.set b (.sit s (p + (Utf8.decode s p).2)))
        else some (.tup [.bool false], H)
      | _ => none
    else none
  | _ => none
/-- the bytes of a row, as a text -/
def byteOf : V → Option UInt8
  | .int .u8 n => some (UInt8.ofNat n.toNat)
  | _ => none
def bytesOf : List V → Option (List UInt8)
  | [] => some []
  | v :: r => match byteOf v, bytesOf r with
    | some b, some bs => some (b :: bs)
    | _, _ => none
def vstrB (H : Hp) (x : V) : Option V :=
  match vcells 1 H x with
  | some cs => match bytesOf cs with
    | some bs => some (.str ⟨bs.toArray⟩)
    | none => none
  | none => none
/-- the letters of a row, as a text -/
def runesOf (acc : ByteArray) : List V → Option ByteArray
  | [] => some acc
  | .int .i32 n :: r => runesOf (acc ++ Utf8.encode n) r
  | _ :: _ => none
def vstrRs (H : Hp) (x : V) : Option V :=
  match vcells 1 H x with
  | some cs => match runesOf .empty cs with
    | some s => some (.str s)
    | none => none
  | none => none
def vstrR : V → Option V
  | .int _ n => some (.str (Utf8.encode n))
  | _ => none
def vrange (H : Hp) : V → Option (V × Hp)
  | .str s => some (.it H.length, H ++ [.sit s 0])
  | _ => none
def optH (H : Hp) : Option V → Option (V × Hp)
  | some v => some (v, H)
  | none => none
def optV : Option Hp → Option (V × Hp)
  | some H => some (dv, H)
  | none => none
/-- less is known of its room -/
def vweak : V → V
  | .slc b off len sz _ => .sl b off len sz
  | v => v
def vwk (v : V) : Option V := if stor v then some (vweak v) else none
/-- an interface value held against nil -/
def vinilT (neg : Bool) : V → Option V
  | .inil => some (.bool (!neg))
  | .iface _ _ => some (.bool neg)
  | _ => none
/-- a pointer held against nil -/
def vpnilT (neg : Bool) : V → Option V
  | .pnil => some (.bool (!neg))
  | .ptr _ _ => some (.bool neg)
  | _ => none
/-- what an interface of a type holds -/
def vunI (t : Nat) : V → Option V
  | .iface t' v => if t' = t then some v else none
  | _ => none
/-- a value in an interface -/
def vmkI (t : Nat) (v : V) : Option V := if stor v then some (.iface t v) else none
def evX (lim : Nat) (H : Hp) : XOp → List V → Option (V × Hp)
  | .mkm, [] => some (.mp H.length, H ++ [.map []])
  | .mget agg ks ok z, [x, k] => optH H (vmget agg ks ok z H x k)
  | .mput agg ks, [x, k, v] => optV (vmput lim agg ks H x k v)
  | .lenM, [x] => optH H (vlenM H x)
  | .slC sz false false, [x] => optH H (vslC sz x none none)
  | .slC sz true false, [x, l] => optH H (vslC sz x (some l) none)
  | .slC sz false true, [x, h] => optH H (vslC sz x none (some h))
  | .slC sz true true, [x, l, h] => optH H (vslC sz x (some l) (some h))
  | .apc wk sz bytes, [x, y] => vappC wk lim sz bytes H x y
  | .bs0, [] => some (.szero, H)
  | .ap0 sz bytes, [x, y] => vapp0 sz bytes H x y
  | .capN, [x] => optH H (vcapN x)
  | .apz sz bytes z, [x, n] => vappz sz bytes z H x n
  | .ment agg ks z, [x, k] => vment lim agg ks z H x k
  | .mest, [x, n, v] => optV (vmest lim H x n v)
  | .maxL, vs => optH H (vmaxL vs)
  | .rgS, [x] => vrange H x
  | .nxS, [x] => vnext lim H x
  | .strB, [x] => optH H (vstrB H x)
  | .strR, [x] => optH H (vstrR x)
  | .strRs, [x] => optH H (vstrRs H x)
  | .wk, [x] => optH H (vwk x)
  | .inilT neg, [x] => optH H (vinilT neg x)
  | .pnilT neg, [x] => optH H (vpnilT neg x)
  | .mkI t, [x] => optH H (vmkI t x)
  | .unI t, [x] => optH H (vunI t x)
  | .ask q, vs => if q vs H then some (dv, H) else none
  | _, _ => none

inductive VNext where
  | val (v : V) (L : Lo) (H : Hp)
  | call (f : FuncId) (args : List V)
  deriving Inhabited

def pureV (L : Lo) (H : Hp) : Option V → Option VNext
  | some v => some (.val v L H)
  | none => none

def evOp (lim : Nat) (fr : Fr) (L : Lo) (H : Hp) : VOp → Option VNext
  | .move x => some (.val (opd fr x) L H)
  | .pick c a b => match opd fr c with
    | .bool t => some (.val (if t then opd fr a else opd fr b) L H)
    | _ => none
  | .new loc zero => if loc then some (.val (.lp L.length 0) (L ++ [zero]) H) else some (.val (.ptr H.length 0) L (H ++ [.row zero true]))
  | .box loc x =>
    if stor (opd fr x) then
      if loc then some (.val (.lp L.length 0) (L ++ [cellsV (opd fr x)]) H) else some (.val (.ptr H.length 0) L (H ++ [.row (cellsV (opd fr x)) true]))
    else none
  | .build zero parts => match vfill zero (opdP fr parts) with
    | some cs => some (.val (.agg cs) L H)
    | none => none
  | .bslice sz len zero parts => match vfill zero (opdP fr parts) with
    | some cs => some (.val (.sl H.length 0 len sz) L (H ++ [.row cs true]))
    | none => none
  | .mks sz bytes z l c => match opd fr l, opd fr c with
    | .int _ n, .int _ m => if n = m ∧ 0 ≤ n ∧ n.toNat * bytes ≤ 16777216 ∧ n ≤ 16777216 then some (.val (.sl H.length 0 n.toNat sz) L (H ++ [.row (rowOf n.toNat z) true])) else none
    | _, _ => none
  | .load agg a => pureV L H (vload agg L H (opd fr a))
  | .store size a x => match vstore lim L H (opd fr a) (opd fr x) size with
    | some (L', H') => some (.val dv L' H')
    | none => none
  | .bin op x y => pureV L H (vbin op (opd fr x) (opd fr y))
  | .eqB neg x y => match opd fr x, opd fr y with
    | .bool a, .bool b => some (.val (.bool (if neg then !(a == b) else a == b)) L H)
    | _, _ => none
  | .eqA neg ks x y => match opd fr x, opd fr y with
    | .agg xs, .agg ys => match eqCells ks xs ys with
      | some b => some (.val (.bool (if neg then !b else b)) L H)
      | none => none
    | _, _ => none
  | .un op x => pureV L H (vun op (opd fr x))
  | .faddr off x => pureV L H (vfaddr off (opd fr x))
  | .iaddrA len sz x i => pureV L H (viaddrA len sz (opd fr x) (opd fr i))
  | .iaddrS sz x i => pureV L H (viaddrS sz (opd fr x) (opd fr i))
  | .idxA len sz agg x i => pureV L H (vidxA len sz agg (opd fr x) (opd fr i))
  | .idxT x i => pureV L H (vidxT (opd fr x) (opd fr i))
  | .field off agg x => pureV L H (vfield off agg (opd fr x))
  | .ext x i => pureV L H (vext i (opd fr x))
  | .conv k x => pureV L H (vconv k (opd fr x))
  | .slA len sz x lo hi => pureV L H (vslA len sz H (opd fr x) (opdO fr lo) (opdO fr hi))
  | .slS sz x lo hi => pureV L H (vslS sz (opd fr x) (opdO fr lo) (opdO fr hi))
  | .slT x lo hi => pureV L H (vslT (opd fr x) (opdO fr lo) (opdO fr hi))
  | .call f args => if allStor (opds fr args) then some (.call f (opds fr args)) else none
  | .lenS x => pureV L H (vlenS (opd fr x))
  | .lenT x => pureV L H (vlenT (opd fr x))
  | .lenA n => some (.val (.int .i64 n) L H)
  | .append sz bytes x y => match vappend lim sz bytes H (opd fr x) (opd fr y) with
    | some (v, H') => some (.val v L H')
    | none => none
  | .copy sz d s => match vcopy lim sz H (opd fr d) (opd fr s) with
    | some (v, H') => some (.val v L H')
    | none => none
  | .max2 x y => match opd fr x, opd fr y with
    | .int k a, .int _ b => some (.val (.int k (if b > a then b else a)) L H)
    | _, _ => none
  | .min2 x y => match opd fr x, opd fr y with
    | .int k a, .int _ b => some (.val (.int k (if b < a then b else a)) L H)
    | _, _ => none
  | .max3 x y z => pureV L H (vmax3 (opd fr x) (opd fr y) (opd fr z))
  | .min3 x y z => pureV L H (vmin3 (opd fr x) (opd fr y) (opd fr z))
  | .nilc x => pureV L H (vnilc (opd fr x))
  | .mkf f fs cs => if allStor (opds fr fs) && allStor (opds fr cs) then some (.val (.func (.func f) (opds fr fs) (opds fr cs)) L H) else none
  | .callV x args => if allStor (opds fr args) then
      match vtarget (opd fr x) (opds fr args) with
      | some (f, vs) => some (.call f vs)
      | none => none
    else none
  | .clr sz z x => match vclr lim sz z H (opd fr x) with
    | some H' => some (.val dv L H')
    | none => none
  | .slS3 sz x lo hi mx => pureV L H (vslS3 sz (opd fr x) (opdO fr lo) (opdO fr hi) (opd fr mx))
  | .eqN neg x => pureV L H (veqN neg (opd fr x))
  | .bytes x => match opd fr x with
    | .str s => some (.val (.sl H.length 0 s.size 1) L (H ++ [.row (vbytesL s) true]))
    | _ => none
  | .x k args => match evX lim H k (opds fr args) with
    | some (v, H') => some (.val v L H')
    | none => none
  | .stuck => none

/-- an operation that may write what was there -/
def writes : VOp → Bool
  | .store .. | .append .. | .copy .. | .clr .. => true
  | .x k _ => xwrite k
  | _ => false
/-- an operation that leaves the heap alone, and does not look into it -/
def hfree (fr : Fr) : VOp → Bool
  | .load _ a | .store _ a _ => match opd fr a with
    | .lp _ _ => true
    | _ => false
  | .new loc _ | .box loc _ => loc
  | .bslice .. | .mks .. | .append .. | .copy .. | .clr .. | .slA .. | .call .. | .callV .. | .bytes .. | .stuck => false
  | .x k _ => xfree k
  | _ => true
/-- a write into the heap -/
def hstore (fr : Fr) : VOp → Bool
  | .store _ a _ => match opd fr a with
    | .ptr _ _ => true
    | _ => false
  | .x (.mput _ _) _ => true
  | _ => false
/-- an append: a row is dead, and a new one there -/
def happ : VOp → Bool
  | .append .. => true
  | _ => false
/-- by the text alone: an operation that may look into the heap -/
def htouch : VOp → Bool
  | .load .. | .store .. | .bslice .. | .mks .. | .append .. | .copy .. | .clr .. | .slA .. | .call .. | .callV .. | .bytes .. | .stuck => true
  | .new loc _ | .box loc _ => !loc
  | .x k _ => !xfree k
  | _ => false
/-- an operation that looks into a variable of the activation, or writes one: which one -/
def memId (fr : Fr) : VOp → Option Nat
  | .load _ a => match opd fr a with
    | .lp id _ => some id
    | _ => none
  | .store _ a _ => match opd fr a with
    | .lp id _ => some id
    | _ => none
  | _ => none
/-- what the head of a drawn region may hold: no write but to a variable of the activation -/
def headOk (fr : Fr) : VOp → Bool
  | .store _ a _ => match opd fr a with
    | .lp _ _ => true
    | _ => false
  | .append .. | .copy .. | .clr .. => false
  | .x k _ => !xwrite k
  | _ => true
def accOk (late : List Nat) (id : Nat) : List (Nat × Nat) → Bool
  | [] => true
  | (j, id') :: rest => !(late.contains j && id' == id) && accOk late id rest

def wanted (fr : Fr) : Option (Nat × Bool) → Bool
  | none => true
  | some (s, want) => match fr s with
    | .bool b => b == want
    | _ => false

structure St where
  fr : Fr
  L : Lo
  H : Hp

abbrev CallFn := Nat → FuncId → List V → Hp → Option (V × Hp)

def evVal (call : CallFn) (lim : Nat) (o : VOper) (s : St) : Option (V × Lo × Hp) :=
  if wanted s.fr o.guard then
    match evOp lim s.fr s.L s.H o.op with
    | some (.val v L H) => some (v, L, H)
    | some (.call f args) => match call lim f args s.H with
      | some (v, H) => some (v, s.L, H)
      | none => none
    | none => none
  else some (dv, s.L, s.H)

def evStep (call : CallFn) (lim : Nat) (o : VOper) (s : St) : Option St :=
  match evVal call lim o s with
  | some (v, L, H) => some ⟨putD s.fr o.dst v, L, H⟩
  | none => none

def evOps (call : CallFn) (lim : Nat) : List VOper → St → Option St
  | [], s => some s
  | o :: rest, s => match evStep call lim o s with
    | some s' => evOps call lim rest s'
    | none => none

/-- the check of one operation of a drawn region's head, and the new list of looks and writes -/
def headAcc (o : VOper) (k : Nat) (s : St) (acc : List (Nat × Nat)) : Option (List (Nat × Nat)) :=
  if wanted s.fr o.guard then
    if headOk s.fr o.op then
      match memId s.fr o.op with
      | none => some acc
      | some id => if accOk o.late id acc then some ((k, id) :: acc) else none
    else none
  else some acc

def evHead (call : CallFn) : Nat → List VOper → St → List (Nat × Nat) → Option St
  | _, [], s, _ => some s
  | k, o :: rest, s, acc => match headAcc o k s acc with
    | none => none
    | some acc' => match evStep call s.H.length o s with
      | some s' => evHead call (k + 1) rest s' acc'
      | none => none

/-- what the head of a drawn region with writes into the heap may hold -/
def headOkS : VOp → Bool
  | .copy .. | .clr .. => false
  | .x (.mput _ _) _ => true
  | .x k _ => !xwrite k
  | _ => true
/-- which operations have looked into the heap, and whether it was written -/
abbrev HpAcc := List Nat × Bool
def lateNone (late : List Nat) : List Nat → Bool
  | [] => true
  | j :: rest => !late.contains j && lateNone late rest
def heapAcc (fr : Fr) (late : List Nat) (op : VOp) (k : Nat) (hp : HpAcc) : Option HpAcc :=
  if hfree fr op then some hp
  else if hstore fr op then (if lateNone late hp.1 then some (k :: hp.1, true) else none)
  else if hp.2 then none else if happ op then (if lateNone late hp.1 then some (k :: hp.1, false) else none) else some (k :: hp.1, false)
def headAccS (o : VOper) (k : Nat) (s : St) (acc : List (Nat × Nat)) (hp : HpAcc) : Option (List (Nat × Nat) × HpAcc) :=
  if wanted s.fr o.guard then
    if headOkS o.op then
      match heapAcc s.fr o.late o.op k hp with
      | none => none
      | some hp' => match memId s.fr o.op with
        | none => some (acc, hp')
        | some id => if accOk o.late id acc then some ((k, id) :: acc, hp') else none
    else none
  else some (acc, hp)
/-- how far down an operation of such a head may write -/
def headLim (lim : Nat) (op : VOp) (s : St) : Nat := if hstore s.fr op || happ op then lim else s.H.length
def evHeadS (call : CallFn) (lim : Nat) : Nat → List VOper → St → List (Nat × Nat) → HpAcc → Option St
  | _, [], s, _, _ => some s
  | k, o :: rest, s, acc, hp => match headAccS o k s acc hp with
    | none => none
    | some (acc', hp') => match evStep call (headLim lim o.op s) o s with
      | some s' => evHeadS call lim (k + 1) rest s' acc' hp'
      | none => none

inductive VExit where
  | normal
  | exit (id : Nat)
  | ret
  deriving Inhabited, DecidableEq

/-- what a round of a loop over a function sees of the frame: the rest is hidden -/
def hideF (fr : Fr) (nt : Nat) : List V := (List.range nt).map fun t => if stor (fr t) then fr t else .hid
/-- a round's frame -/
def frR (args : List V) : Fr := fun t => args.getD t .hid
/-- the parameters of a round -/
def setPs (fr : List V) : List Nat → List V → List V
  | t :: ts, v :: vs => setPs (fr.set t v) ts vs
  | _, _ => fr
def evCode (call : CallFn) (lim : Nat) : Nat → VCode → St → Option (VExit × St)
  | 0, _, _ => none
  | n + 1, c, s =>
    match c with
    | .skip => some (.normal, s)
    | .reg ops => match evOps call lim ops s with
      | some s' => some (.normal, s')
      | none => none
    | .draw head tail => match evHead call 0 head s [] with
      | some s' => match evOps call lim tail s' with
        | some s'' => some (.normal, s'')
        | none => none
      | none => none
    | .drawS head tail => match evHeadS call lim 0 head s [] ([], false) with
      | some s' => match evOps call lim tail s' with
        | some s'' => some (.normal, s'')
        | none => none
      | none => none
    | .seq a b => match evCode call lim n a s with
      | some (.normal, s') => evCode call lim n b s'
      | r => r
    | .cond c a b => match opd s.fr c with
      | .bool true => evCode call lim n a s
      | .bool false => evCode call lim n b s
      | _ => none
    | .block id body => match evCode call lim n body s with
      | some (.exit id', s') => if id' = id then some (.normal, s') else some (.exit id', s')
      | r => r
    | .loop body => match evCode call lim n body s with
      | some (.normal, s') => evCode call lim n (.loop body) s'
      | r => r
    | .scope body => evCode call lim n body s
    | .exit id => some (.exit id, s)
    | .ret => some (.ret, s)
    | .stuck => none
    | .prim _ => none
    | .rangeF g f ps nt => match opd s.fr g with
      | .func (.func h) fs cs => if h = yB then none else match call lim h (fs ++ [.yl s.H.length] ++ cs) (s.H ++ [.loop f ps (hideF s.fr nt)]) with
        | some (_, H2) => match H2[s.H.length]? with
          | some (.loop _ _ _) => some (.normal, ⟨s.fr, s.L, H2.set s.H.length .dead⟩)
          | _ => none
        | none => none
      | _ => none

def resV (fr : Fr) (L : Lo) (H : Hp) : VRes → Option V
  | .tmp t => if stor (fr t) then some (fr t) else none
  | .weak t => if stor (fr t) then some (vweak (fr t)) else none
  | .cell t agg => vload agg L H (fr t)
def resVs (fr : Fr) (L : Lo) (H : Hp) : List VRes → Option (List V)
  | [] => some []
  | r :: rest => match resV fr L H r, resVs fr L H rest with
    | some v, some vs => some (v :: vs)
    | _, _ => none
def vres (rs : List VRes) (fr : Fr) (L : Lo) (H : Hp) : Option V :=
  match resVs fr L H rs with
  | some [v] => some v
  | some vs => some (.tup vs)
  | none => none

def fr0 (args : List V) : Fr := fun t => args.getD t dv

abbrev Tbl := FuncId → Option VFn

/-- one round of a loop over a function -/
def evYield (T : Tbl) (call : CallFn) (n lim : Nat) (H : Hp) : List V → Option (V × Hp)
  | .yl b :: xs => match H[b]? with
    | some (.loop f ps fr) =>
      if lim ≤ b ∧ xs.length = ps.length ∧ rB ≤ f then
        match T f with
        | some vf => if vf.nparams = fr.length then match vf.body with
          | .seq x y => match evCode call lim n x ⟨frR (setPs fr ps xs), [], H⟩ with
            | some (.normal, s1) => match s1.H[b]? with
              | some (.loop _ _ _) => match evCode call lim n y ⟨s1.fr, s1.L, s1.H.set b .dead⟩ with
                | some (.normal, s) => match s.H[b]? with
                  | some .dead => some (.bool true, s.H.set b (.loop f ps fr))
                  | _ => none
                | _ => none
              | _ => none
            | _ => none
          | _ => none
          else none
        | none => none
      else none
    | _ => none
  | _ => none

def evFn (T : Tbl) : Nat → CallFn
  | 0, _, _, _, _ => none
  | n + 1, lim, f, args, H =>
    if f = yB then evYield T (evFn T n) n lim H args
    else if rB ≤ f then none
    else match T f with
    | none => none
    | some vf =>
      if args.length = vf.nparams then
        match primOf vf.body with
        | some g => match g args H with
          | some (v, bs) => some (v, H ++ bs)
          | none => none
        | none => match evCode (evFn T n) lim n vf.body ⟨fr0 args, [], H⟩ with
          | some (.exit _, _) => none
          | some (_, s) => match vres vf.results s.fr s.L s.H with
            | some v => some (v, s.H)
            | none => none
          | none => none
      else none

end Go.Proofs.YtpdnbmnnkefedaaGreatDoor.Vm
