/-
  A small calculus of our own: a Go function's code is carried out on values that may hold variables, in the kernel; what must be decided is told by hints, and comes back as propositions. This text: the definitions. (The soundness: SxB and on.)
-/
import Derived.Test.YthfgocpejlhanaaMt
import Derived.Calls
import Derived.OrdersHeld
import Derived.Below
namespace Go.Sx

structure St where
  t : List AV
  h : Hp

/-- What is kept of a state: of each temporary 0 nothing, 1 all, 2 all but that it is written out; the rows that are kept, in their new order, each 1 or 2, or 0: only its name. Behind: temporaries whose slices may be nil from now on; nil ones that are given a row without elements (temporary, type, cells). -/
structure Modes where
  tm : List Nat
  σ : List Nat
  rm : List Nat
  sl : List Nat
  ph : List (Nat × TypeId × Nat)

inductive Hint : Type 1 where
  | br (p : Bool)
  | fork (l r : List Hint)
  | split (b : Bool) (l r : List Hint)
  | ix (n : Nat)
  | dy
  | old
  | frz
  | pur (fs : List FuncId)
  | wrc (fs : List FuncId)
  | cell (v : AV)
  | rows (es : List AV)
  | loop (n : Nat)
  | linv (α : Type) (p0 : α) (Φ : α → St) (I : α → Prop) (μ : α → Nat) (M0 M M' : Modes) (af : α → List Hint) (hs : α → List Hint)
  | nw
  | arr
  | txt
  | md (M : Modes)
  | pick (f : Nat → List Hint)
  | mrg (c : Bool) (α : Type) (Φ : α → St) (I : α → Prop) (M : Modes) (l : List Hint) (af : α → List Hint)
  | new (f : Nat → List Hint)
  | get
  | nm (es : List AV)
  | inl (hs : Nat → List Hint)
  | fz (d z : Nat) (es : List AV)
  | abs (d z : Nat) (es : List AV) (f : Value → List Hint)
  | rd (d : Nat) (f : List AV → List Hint)
  | rng (α : Type) (E : α → AV) (xs : List α) (rd : List Nat) (bx : List (Nat × TypeId × Nat)) (H : List α → Hp) (I : List α → Prop) (m0 m : List Nat) (rs : List α → α → List Hint)
  | linw (α β : Type) (p0 : α) (Φ : α → St) (Ψ : β → St) (I : α → Prop) (J : β → Prop) (μ : α → Nat) (ν : β → Nat) (M0 M M' : Modes) (af : α → List Hint) (ag : β → List Hint) (hs : α → List Hint) (gs : β → List Hint)
  | dag (css : List (List Nat)) (M : Nat → Modes) (Φ : Nat → St)
  | jmp (l : Nat) (α : Type) (p0 : α) (Φ : α → St) (I : α → Prop) (μ : α → Nat) (M0 M : Modes) (hs : α → List Hint)

instance : Inhabited Hint := ⟨.dy⟩

/-- The type of raw memory (no type of a program's): an object of it has blocks for its state, each with its own name, its type and its cells. -/
def memTy : TypeId := 1000003

/-- The type of a store of frozen slices: what is read there is never written. -/
def frzTy : TypeId := 1000005

end Go.Sx
namespace Go.Sx.M

/-- Of raw memory: the cells of block b. -/
def mget : List AV → Nat → Option (List AV)
  | [], _ => none
  | .tuple (.lit (.int _ n) :: _ :: cs) :: l, b => if n = (b : Int) then some cs else mget l b
  | _ :: l, b => mget l b

/-- Other cells put into block b. -/
def mset : List AV → Nat → List AV → List AV
  | [], _, _ => []
  | .tuple (.lit (.int k n) :: t :: cs) :: l, b, ds => if n = (b : Int) then .tuple (.lit (.int k n) :: t :: ds) :: l else .tuple (.lit (.int k n) :: t :: cs) :: mset l b ds
  | x :: l, b, ds => x :: mset l b ds

/-- A frozen slice, as a store's entry: the value; how many cells an element has; what it holds. -/
def catF (a b : List AV) : List AV := a ++ b
def memF (e : AV) (l : List AV) : Prop := e ∈ l
def fzE (u : Value) (z : Nat) (es : List AV) : AV := .tuple (.val u :: .lit (.int .i64 z) :: es)

/-- What is read at an address: a cell, or n of them. -/
def mread (es : List AV) (q : Option Addr) (agg : Bool) (n : Nat) : Option AV :=
  match q with
  | some ⟨b, o, none⟩ => match mget es b with
    | some cs => match agg with
      | true => if o + n ≤ cs.length then some (.agg ((cs.drop o).take n)) else none
      | false => cs[o]?
    | none => none
  | _ => none

/-- A cell is written. -/
def mwrite (es : List AV) (q : Option Addr) (v : AV) : Option (List AV) :=
  match q with
  | some ⟨b, o, none⟩ => match mget es b with
    | some cs => if o < cs.length then some (mset es b (cs.set o v)) else none
    | none => none
  | _ => none

/-- Raw memory, a cell written. -/
def mwr (es : List AV) (q : Option Addr) (v : AV) : List AV := (mwrite es q v).getD []

/-- A pointer, a number that is read. -/
def mptr (es : List AV) (q : Option Addr) : Option Addr := match mread es q false 1 with | some (.val (.pointer p)) => p | _ => none
def mint (es : List AV) (q : Option Addr) : Int := match mread es q false 1 with | some (.int _ n) => n | _ => 0

def mblk (b : Nat) (t : TypeId) (cs : List AV) : AV := .tuple (.lit (.int .i64 b) :: .lit (.int .i64 t) :: cs)

/-- An address, n cells on. -/
def shift (q : Option Addr) (n : Nat) : Option Addr := match q with | some ⟨b, o, none⟩ => some ⟨b, o + n, none⟩ | q => q

/-- It is one, of a cell. -/
def sure (q : Option Addr) : Bool := match q with | some ⟨_, _, none⟩ => true | _ => false

end Go.Sx.M
namespace Go.Sx

inductive Ex where
  | normal
  | exit (id : Nat)
  | ret
  | goto (l : Nat)

/-- Of a value of one cell: of an aggregate its cells. -/
def AV.cells : AV → List AV
  | .agg cs => cs
  | x => [x]

def AV.cell1 : AV → Bool
  | .any | .agg _ | .tuple _ => false
  | .lit (.agg _) | .lit (.tuple _) | .val (.agg _) | .val (.tuple _) => false
  | _ => true

/-- It names no row of memory, and is one cell. -/
def AV.plain1 : AV → Bool
  | .lit (.agg _) | .lit (.tuple _) | .val (.agg _) | .val (.tuple _) => false
  | .lit _ | .int _ _ | .w64 _ | .bool _ | .val _ => true
  | .func (.func _) [] [] => true
  | _ => false

def AV.plain : AV → Bool
  | .agg cs => cs.all AV.plain1
  | x => x.plain1

/-- All cells are one cell each. -/
def AV.sound : AV → Bool
  | .agg cs => cs.all AV.cell1
  | x => x.cell1

def liftV : Value → AV
  | .agg cs => .agg (cs.toList.map .lit)
  | v => .lit v

def St.op (st : St) : Operand → AV
  | .tmp t => st.t.getD t .any
  | .const v => liftV v
  | .global g => .val (.pointer (some ⟨g, 0, none⟩))
  | .func f => .func (.func f) [] []

def St.put (st : St) (dst : Option Tmp) (v : AV) : St :=
  match dst with
  | some d => { st with t := st.t.set d v }
  | none => st

def AV.asInt : AV → Option (Bool × IntKind × Int)
  | .lit (.int k n) => some (true, k, n)
  | .int k n => some (false, k, n)
  | .w64 x => some (false, .u64, (x.toNat : Int))
  | _ => none

/-- A word of 64 bits. -/
def AV.asW : AV → Option (Bool × BitVec 64)
  | .w64 x => some (false, x)
  | .lit (.int .u64 n) => match decide (0 ≤ n ∧ n < 18446744073709551616) with
    | true => some (true, BitVec.ofInt 64 n)
    | false => none
  | _ => none

def mkInt (st : Bool) (k : IntKind) (n : Int) : AV := match st with | true => .lit (.int k n) | false => .int k n
def mkStr (st : Bool) (s : ByteArray) : AV := match st with | true => .lit (.string s) | false => .val (.string s)
def mkBool (st : Bool) (b : Bool) : AV := match st with | true => .lit (.bool b) | false => .bool b

def AV.asBool : AV → Option (Bool × Bool)
  | .lit (.bool b) => some (true, b)
  | .bool b => some (false, b)
  | _ => none

def AV.asStr : AV → Option (Bool × ByteArray)
  | .lit (.string s) => some (true, s)
  | .val (.string s) => some (false, s)
  | _ => none

/-- A test: a bool that is written out is taken as it is; of another one a hint says it, and that is to be shown. -/
def test (x : AV) (hs : List Hint) (K : Bool → List Hint → Prop) : Prop :=
  match x.asBool with
  | some (true, b) => K b hs
  | some (false, b) => match hs with
    | .br p :: hs => b = p ∧ K p hs
    | .fork l r :: _ => (b = true → K true l) ∧ (b = false → K false r)
    | _ => False
  | none => False

/-- What must hold: decided at once where all is written out. -/
def need (st : Bool) (p : Prop) [Decidable p] (K : Prop) : Prop :=
  match st with
  | true => match decide p with | true => K | false => False
  | false => p ∧ K

def bitsOf (op : BinOp) (k : IntKind) (x y : Int) : Option Int :=
  match op with
  | .and => some (k.wrap (BitVec.ofInt k.bits x &&& BitVec.ofInt k.bits y).toNat)
  | .or => some (k.wrap (BitVec.ofInt k.bits x ||| BitVec.ofInt k.bits y).toNat)
  | .xor => some (k.wrap (BitVec.ofInt k.bits x ^^^ BitVec.ofInt k.bits y).toNat)
  | .andNot => some (k.wrap (BitVec.ofInt k.bits x &&& ~~~(BitVec.ofInt k.bits y)).toNat)
  | _ => none

def cmpOf (op : BinOp) (x y : Int) : Option Bool :=
  match op with
  | .eql => some (x == y)
  | .neq => some (x != y)
  | .lss => some (decide (x < y))
  | .leq => some (decide (x ≤ y))
  | .gtr => some (decide (x > y))
  | .geq => some (decide (x ≥ y))
  | _ => none

def inRange (k : IntKind) (n : Int) : Prop := k.min ≤ n ∧ n ≤ k.max

/-- A number that may be too great: where a hint says that it is not, that is to be shown. -/
def arith (s : Bool) (k : IntKind) (n : Int) (hs : List Hint) (K : AV → List Hint → Prop) : Prop :=
  match s with
  | true => K (.lit (.int k (k.wrap n))) hs
  | false => match hs with
    | .nw :: hs => inRange k n ∧ K (.int k n) hs
    | hs => K (.int k (k.wrap n)) hs

/-- Two integers. -/
def binInt (op : BinOp) (s s' : Bool) (k k' : IntKind) (x y : Int) (hs : List Hint) (K : AV → List Hint → Prop) : Prop :=
  match op with
  | .shl => need s' (0 ≤ y) (arith (s && s') k (x * 2 ^ (min y.toNat k.bits)) hs K)
  | .shr => need s' (0 ≤ y) (K (mkInt (s && s') k (x.fdiv (2 ^ (min y.toNat k.bits)))) hs)
  | op =>
    match decide (k = k') with
    | false => False
    | true => match op with
      | .add => arith (s && s') k (x + y) hs K
      | .sub => arith (s && s') k (x - y) hs K
      | .mul => arith (s && s') k (x * y) hs K
      | .quo => need s' (y ≠ 0) (arith (s && s') k (x.tdiv y) hs K)
      | .rem => need s' (y ≠ 0) (K (mkInt (s && s') k (x.tmod y)) hs)
      | op => match bitsOf op k x y with
        | some n => K (mkInt (s && s') k n) hs
        | none => match cmpOf op x y with
          | some b => K (mkBool (s && s') b) hs
          | none => False

/-- Two words of 64 bits. -/
def binW (op : BinOp) (s' : Bool) (x y : BitVec 64) (K : AV → Prop) : Prop :=
  match op with
  | .add => K (.w64 (x + y))
  | .sub => K (.w64 (x - y))
  | .mul => K (.w64 (x * y))
  | .quo => need s' (y ≠ 0) (K (.w64 (x / y)))
  | .rem => need s' (y ≠ 0) (K (.w64 (x % y)))
  | .and => K (.w64 (x &&& y))
  | .or => K (.w64 (x ||| y))
  | .xor => K (.w64 (x ^^^ y))
  | .andNot => K (.w64 (x &&& ~~~y))
  | .eql => K (.bool (x == y))
  | .neq => K (.bool (x != y))
  | .lss => K (.bool (decide (x < y)))
  | .leq => K (.bool (decide (x ≤ y)))
  | .gtr => K (.bool (decide (y < x)))
  | .geq => K (.bool (decide (y ≤ x)))
  | _ => False

/-- Of a pointer: is it nil? -/
def AV.nilPtr : AV → Option Bool
  | .lit (.pointer none) => some true
  | .val (.pointer q) => some q.isNone
  | .ptr _ _ _ _ => some false
  | _ => none

/-- Of a function: is it nil? -/
def AV.nilFn : AV → Option Bool
  | .lit .nilFunc => some true
  | .lit (.func _ _ _) => some false
  | .func _ _ _ => some false
  | _ => none

/-- Are two cells of a basic type the same? -/
def eqCell (d : TypeDesc) (x y : AV) : Option Bool :=
  match d with
  | .bool => match x.asBool, y.asBool with
    | some (_, a), some (_, b) => some (a == b)
    | _, _ => none
  | .int _ => match x.asW, y.asW with
    | some (_, a), some (_, b) => some (a == b)
    | _, _ => match x.asInt, y.asInt with
      | some (_, k, a), some (_, k', b) => match decide (k = k') with | true => some (a == b) | false => none
      | _, _ => none
  | .string => match x.asStr, y.asStr with
    | some (_, a), some (_, b) => some (a == b)
    | _, _ => none
  | .pointer _ => match y, x.nilPtr with
    | .lit (.pointer none), some b => some b
    | y, some true => y.nilPtr
    | _, _ => none
  | .func _ _ _ => match y.nilFn, x.nilFn with
    | some true, some b => some b
    | some b, some true => some b
    | _, _ => none
  | _ => none

def isAggT (P : Program) (t : TypeId) : Option Bool :=
  match P.underlying t with
  | some (.struct _) => some true
  | some (.array _ _) => some true
  | some _ => some false
  | none => none

/-- The part of type t at cell o. -/
def partOf (P : Program) (t : TypeId) (cs : List AV) (o : Nat) : Option AV :=
  match P.info? t, isAggT P t with
  | some i, some true => match decide (o + i.size ≤ cs.length) with
    | true => some (.agg ((cs.drop o).take i.size))
    | false => none
  | some _, some false => cs[o]?
  | _, _ => none

def andAll : List Bool → Bool
  | [] => true
  | [b] => b
  | b :: bs => b && andAll bs

def allSome {α : Type} : List (Option α) → Option (List α)
  | [] => some []
  | none :: _ => none
  | some a :: l => match allSome l with | some r => some (a :: r) | none => none

def eqT (P : Program) : Nat → TypeId → AV → AV → Option Bool
  | 0, _, _, _ => none
  | d + 1, t, x, y =>
    match P.underlying t with
    | some (.struct fs) => match P.stoodInHeld t with
      | true => none
      | false => match x, y with
        | .agg xs, .agg ys => match allSome (fs.toList.map fun f => match decide (f.name = "_") with
            | true => some true
            | false => match partOf P f.type xs f.offset, partOf P f.type ys f.offset with
              | some a, some b => eqT P d f.type a b
              | _, _ => none) with
          | some bs => some (andAll bs)
          | none => none
        | _, _ => none
    | some (.array n e) => match x, y, P.info? e with
      | .agg xs, .agg ys, some i => match allSome ((List.range n).map fun j =>
            match partOf P e xs (j * i.size), partOf P e ys (j * i.size) with
              | some a, some b => eqT P d e a b
              | _, _ => none) with
          | some bs => some (andAll bs)
          | none => none
      | _, _, _ => none
    | some dsc => eqCell dsc x y
    | none => none

def AV.nilSlice : AV → Option Bool
  | .lit (.slice none _ _) => some true
  | .slice _ _ _ _ => some false
  | _ => none

/-- '==' of two values that are no integers. -/
def eqV (P : Program) (t : TypeId) (x y : AV) : Option Bool :=
  match P.underlying t with
  | some (.slice _) => match x.nilSlice, y.nilSlice with
    | some true, some b => some b
    | some b, some true => some b
    | _, _ => none
  | some (.struct _) => match P.eqGuardType P.depth t with | true => none | false => eqT P 8 t x y
  | some (.array _ _) => match P.eqGuardType P.depth t with | true => none | false => eqT P 8 t x y
  | some _ => eqT P 8 t x y
  | none => none

def isShift : BinOp → Bool
  | .shl | .shr => true
  | _ => false

def binSh (op : BinOp) (s : Bool) (x : BitVec 64) (n : Int) (K : AV → Prop) : Prop :=
  match op with
  | .shl => need s (0 ≤ n) (K (.w64 (x <<< n.toNat)))
  | .shr => need s (0 ≤ n) (K (.w64 (x >>> n.toNat)))
  | _ => False

/-- '==' (or '!=') of a slice that may be nil: both cases. -/
def vslEq (P : Program) (neg : Bool) (t : TypeId) (x y : AV) (hs : List Hint) (K : AV → List Hint → Prop) : Prop :=
  match x, hs with
  | .vsl r i n, .fork l m :: _ => match eqV P t (.slice r i n true) y, eqV P t (.lit (.slice none 0 0)) y with
    | some b, some c => (n = 0 → K (.lit (.bool (c != neg))) l) ∧ K (.lit (.bool (b != neg))) m
    | _, _ => False
  | _, _ => False

def binOp (P : Program) (op : BinOp) (t : TypeId) (x y : AV) (hs : List Hint) (K : AV → List Hint → Prop) : Prop :=
  match isShift op, x.asW, y.asW, x.asInt, y.asInt with
  | true, some (false, x), _, _, some (s', _, n) => binSh op s' x n fun v => K v hs
  | true, some (true, x), _, _, some (false, _, n) => binSh op false x n fun v => K v hs
  | false, some (false, x), some (s', y), _, _ => binW op s' x y fun v => K v hs
  | false, some (true, x), some (false, y), _, _ => binW op false x y fun v => K v hs
  | _, _, _, some (s, k, a), some (s', k', b) => binInt op s s' k k' a b hs K
  | _, _, _, _, _ => match op with
    | .eql => match eqV P t x y with | some b => K (.bool b) hs | none => vslEq P false t x y hs K
    | .neq => match eqV P t x y with | some b => K (.bool (!b)) hs | none => vslEq P true t x y hs K
    | .add => match x.asStr, y.asStr with
      | some (s, a), some (s', b) => need (s && s') (a.size + b.size ≤ 9223372036854775807) (K (mkStr (s && s') (a ++ b)) hs)
      | _, _ => False
    | _ => False

def unOp (op : UnOp) (x : AV) (K : AV → Prop) : Prop :=
  match op with
  | .neg => match x.asW with
    | some (false, x) => K (.w64 (-x))
    | _ => match x.asInt with | some (s, k, n) => K (mkInt s k (k.wrap (0 - n))) | none => False
  | .xor => match x.asW with
    | some (false, x) => K (.w64 (~~~x))
    | _ => match x.asInt with
      | some (s, k, n) => K (mkInt s k (k.wrap (BitVec.ofInt k.bits (if k.signed then -1 else k.max) ^^^ BitVec.ofInt k.bits n).toNat))
      | none => False
  | .not => match x.asBool with | some (s, b) => K (mkBool s (!b)) | none => False
  | .plus => False

/-- An index below len ('sl': the length is written out). -/
def withIx (x : AV) (len : Nat) (sl : Bool) (hs : List Hint) (K : Nat → Bool → List Hint → Prop) : Prop :=
  match x.asInt with
  | some (true, _, n) => need sl (0 ≤ n ∧ n < (len : Int)) (K n.toNat sl hs)
  | some (false, _, n) => match hs with
    | .ix m :: hs => n = (m : Int) ∧ need sl (m < len) (K m sl hs)
    | .dy :: hs => (0 ≤ n ∧ n < (len : Int)) ∧ K n.toNat false hs
    | _ => False
  | none => False

def Hp.row (h : Hp) (r : Nat) : Option Blk := match h[r]? with
  | some (some k) => (match k.esz with | 0 => none | _ + 1 => some k)
  | _ => none

/-- A row whose elements have no cells stands for an object: of a type whose fields are its own business; its elements say its state. -/
def Hp.obj (h : Hp) (r : Nat) : Option Blk := match h[r]? with
  | some (some k) => (match k.esz with | 0 => some k | _ + 1 => none)
  | _ => none

/-- The raw memory of a heap: the first object of its type. -/
def memRow : Nat → Hp → Option (Nat × Blk)
  | _, [] => none
  | i, some k :: h => match k.esz, decide (k.ty = memTy) with
    | 0, true => some (i, k)
    | _, _ => memRow (i + 1) h
  | i, none :: h => memRow (i + 1) h

/-- The value of type t at cell o of element i. -/
def Blk.read (P : Program) (k : Blk) (t : TypeId) (i o : Nat) : Option AV :=
  match k.elems[i]? with
  | some e => partOf P t e.cells o
  | none => none

def zeroOf (P : Program) (t : TypeId) : Option AV :=
  match P.info? t with
  | some i => match i.zero with
    | some z => match decide (z.cells.size = i.size) with
      | true => some (liftV z)
      | false => none
    | none => none
  | none => none

/-- What is read of raw memory, said by what it is read for: of a type whose zero value is z. -/
def rawCell (es : List AV) (q : Option Addr) (i : Nat) : AV → AV
  | .lit (.pointer _) => .val (.pointer (M.mptr es (M.shift q i)))
  | .lit (.int k _) => .int k (M.mint es (M.shift q i))
  | _ => .any

def rawCells (es : List AV) (q : Option Addr) : Nat → List AV → List AV
  | _, [] => []
  | i, z :: zs => rawCell es q i z :: rawCells es q (i + 1) zs

def rawShape (es : List AV) (q : Option Addr) (ag : Bool) (z : AV) : AV := match ag with
  | true => .agg (rawCells es q 0 z.cells)
  | false => rawCell es q 0 z

def load (P : Program) (h : Hp) (t : TypeId) (x : AV) (hs : List Hint) (K : AV → List Hint → Prop) : Prop :=
  match x with
  | .ptr r i o st => match h.row r with
    | none => False
    | some k => match st with
      | true => match k.read P t i o with
        | some v => K v hs
        | none => False
      | false => match hs with
        | .cell v :: hs => k.read P t i o = some v ∧ K v hs
        | _ => False
  | .val (.pointer q) => match memRow 0 h, P.info? t, isAggT P t, hs with
    | some (_, k), some i, some ag, .cell v :: hs => M.mread k.elems q ag i.size = some v ∧ K v hs
    | some (_, k), some i, some ag, .get :: hs => (match zeroOf P t with
      | some z => M.mread k.elems q ag i.size = some (rawShape k.elems q ag z) ∧ K (rawShape k.elems q ag z) hs
      | none => False)
    | _, _, _, _ => False
  | _ => False

def fillAt (cs : List AV) (o : Nat) : List AV → List AV
  | [] => cs
  | v :: vs => fillAt (cs.set o v) (o + 1) vs

def fill (place : Nat → Option (Nat × Nat)) (cs : List AV) : List (Nat × AV) → Option (List AV)
  | [] => some cs
  | (i, v) :: rest => match place i with
    | none => none
    | some (off, size) => match decide (v.cells.length = size), decide (off + v.cells.length ≤ cs.length) with
      | true, true => fill place (fillAt cs off v.cells) rest
      | _, _ => none

def sizeAt (P : Program) (t : TypeId) : Option Nat := match P.info? t with | some i => some i.size | none => none

def build (P : Program) (t : TypeId) (parts : List (Nat × AV)) (K : AV → Prop) : Prop :=
  match parts.all (fun p => p.2.sound) with
  | false => False
  | true => match P.underlying t, zeroOf P t with
  | some (.struct fs), some z => match allSome (fs.toList.map fun f => match sizeAt P f.type with | some s => some (f.offset, s) | none => none) with
    | some places => match fill (places[·]?) z.cells parts with
      | some cs => K (.agg cs)
      | none => False
    | none => False
  | some (.array _ e), some z => match sizeAt P e with
    | some s => match fill (fun i => some (i * s, s)) z.cells parts with
      | some cs => K (.agg cs)
      | none => False
    | none => False
  | _, _ => False

def builtinQ (P : Program) (b : Builtin) (tys : List TypeId) (args : List AV) (K : AV → Prop) : Prop :=
  match b, args with
  | .len, [x] => match x, tys with
    | .slice _ _ n st, [t] => match P.underlying t with | some (.slice _) => K (mkInt st .i64 n) | _ => False
    | .vsl _ _ n, [t] => match P.underlying t with | some (.slice _) => K (mkInt false .i64 n) | _ => False
    | .lit (.slice _ n _), [t] => match P.underlying t with | some (.slice _) => K (mkInt true .i64 n) | _ => False
    | x, [t] => match P.underlying t with
      | some .string => match x.asStr with | some (s, b) => K (mkInt s .i64 b.size) | none => False
      | some (.array n _) => K (mkInt true .i64 n)
      | _ => False
    | _, _ => False
  | .min, [x, y] => match x.asInt, y.asInt with
    | some (s, k, a), some (s', _, b) => K (mkInt (s && s') k (if b < a then b else a))
    | _, _ => False
  | .min, [x, y, z] => match x.asInt, y.asInt, z.asInt with
    | some (s, k, a), some (s', _, b), some (s'', _, c) => K (mkInt (s && s' && s'') k (if c < (if b < a then b else a) then c else if b < a then b else a))
    | _, _, _ => False
  | .max, [x, y] => match x.asInt, y.asInt with
    | some (s, k, a), some (s', _, b) => K (mkInt (s && s') k (if b > a then b else a))
    | _, _ => False
  | _, _ => False

/-- Is the argument a map that is held as an object? -/
def mapArg : List TypeId → Bool
  | [t] => mapTy t
  | _ => false

/-- Is it an operation that only reads? -/
def quiet : Op → Bool
  | .move _ | .assign _ | .pick .. | .build .. | .load .. | .nilCheck _ | .binOp .. | .unOp .. | .convert .. | .makeInterface .. | .makeFunc ..
  | .fieldAddr .. | .field .. | .indexAddr .. | .index .. | .extract .. | .slice .. => true
  | .call { callee := .builtin .len, argTypes, .. } => !mapArg argTypes.toList
  | .call { callee := .builtin .min, .. } | .call { callee := .builtin .max, .. } => true
  | _ => false

/-- It reads no memory. -/
def blind : Op → Bool
  | .load .. => false
  | o => quiet o

/-- A row of single cells. -/
def esz1 (h : Hp) (r : Nat) : Bool := match h.row r with
  | some k => decide (k.esz = 1)
  | none => false

def qOp (P : Program) (st : St) (o : Op) (hs : List Hint) (K : AV → List Hint → Prop) : Prop :=
  match o with
  | .move x | .assign x => K (st.op x) hs
  | .pick c a b => test (st.op c) hs fun p hs => K (match p with | true => st.op a | false => st.op b) hs
  | .build t parts => build P t (parts.toList.map fun p => (p.1, st.op p.2)) fun v => K v hs
  | .load t a => load P st.h t (st.op a) hs K
  | .nilCheck x => match st.op x with
    | .ptr r i o s => K (.ptr r i o s) hs
    | .val (.pointer q) => q.isSome = true ∧ K (.val (.pointer q)) hs
    | .func (.func f) a b => K (.func (.func f) a b) hs
    | _ => False
  | .binOp op t x y _ => binOp P op t (st.op x) (st.op y) hs K
  | .unOp op _ x => unOp op (st.op x) fun v => K v hs
  | .convert s d x => match P.underlying s, P.underlying d, (st.op x).asInt with
    | some (.int _), some (.int k), some (c, _, n) => (match k, c, (st.op x).asW with
      | .u64, false, some (_, x) => K (.w64 x) hs
      | .u64, false, _ => K (.w64 (BitVec.ofInt 64 n)) hs
      | k, c, _ => K (mkInt c k (k.wrap n)) hs)
    | _, _, _ => False
  | .makeInterface t x => match P.underlying t with
    | none => False
    | some (.interface _) => False
    | some _ => K (.iface t (st.op x)) hs
  | .makeFunc fn first captured => K (.func fn (first.toList.map st.op) (captured.toList.map st.op)) hs
  | .fieldAddr s x f => match P.underlying s, st.op x with
    | some (.struct fs), .ptr r i o c => match fs.toList[f]? with
      | some fd => match sizeAt P fd.type with
        | some (_ + 1) => (match esz1 st.h r with
          | true => K (.ptr r (i + (o + fd.offset)) 0 c) hs
          | false => K (.ptr r i (o + fd.offset) c) hs)
        | _ => False
      | none => False
    | some (.struct fs), .val (.pointer q) => match fs.toList[f]? with
      | some fd => match sizeAt P fd.type with
        | some (_ + 1) => M.sure q = true ∧ K (.val (.pointer (M.shift q fd.offset))) hs
        | _ => False
      | none => False
    | _, _ => False
  | .field t x f => match P.underlying t, st.op x with
    | some (.struct fs), .agg cs => match fs.toList[f]? with
      | some fd => match partOf P fd.type cs fd.offset with | some v => K v hs | none => False
      | none => False
    | _, _ => False
  | .indexAddr t x ix => match P.underlying t, st.op x with
    | some (.array len e), .ptr r i o c => match sizeAt P e with
      | some s => withIx (st.op ix) len true hs fun n c' hs => match o, st.h.row r with
        | 0, some k => (match decide (k.esz = s) with
          | true => K (.ptr r (i + n) 0 (c' && c)) hs
          | false => K (.ptr r i (0 + n * s) (c' && c)) hs)
        | o, _ => K (.ptr r i (o + n * s) (c' && c)) hs
      | none => False
    | some (.array len e), .val (.pointer q) => match sizeAt P e with
      | some s => withIx (st.op ix) len true hs fun n _ hs => M.sure q = true ∧ K (.val (.pointer (M.shift q (n * s)))) hs
      | none => False
    | some (.slice e), .slice r i len c => match st.h.row r, sizeAt P e with
      | some k, some s => match decide (k.esz = s) with
        | true => withIx (st.op ix) len c hs fun n c' hs => K (.ptr r (i + n) 0 (c' && c)) hs
        | false => False
      | _, _ => False
    | some (.slice e), .vsl r i len => match st.h.row r, sizeAt P e with
      | some k, some s => match decide (k.esz = s) with
        | true => withIx (st.op ix) len false hs fun n _ hs => K (.ptr r (i + n) 0 false) hs
        | false => False
      | _, _ => False
    | _, _ => False
  | .index t x ix => match P.underlying t, st.op x with
    | some (.array len e), .agg cs => match sizeAt P e with
      | some s => withIx (st.op ix) len true hs fun n c hs => match c with
        | true => match partOf P e cs (n * s) with | some v => K v hs | none => False
        | false => match hs with
          | .cell v :: hs => partOf P e cs (n * s) = some v ∧ K v hs
          | _ => False
      | none => False
    | some .string, x => match x.asStr with
      | some (sl, s) => withIx (st.op ix) s.size sl hs fun n c hs => match c with
        | true => match s[n]? with | some b => K (.lit (.int .u8 (b.toNat : Nat))) hs | none => False
        | false => match hs with
          | .cell (.int .u8 b) :: hs => (s[n]?.map fun u : UInt8 => (u.toNat : Int)) = some b ∧ K (.int .u8 b) hs
          | _ => False
      | none => False
    | _, _ => False
  | .extract t i => match st.op t with
    | .tuple vs => match vs[i]? with | some v => K v hs | none => False
    | _ => False
  | .slice t x lo hi none => match P.underlying t, st.op x with
    | some (.array len e), .ptr r i 0 c => match st.h.row r, sizeAt P e with
      | some k, some s => match decide (k.esz = s ∧ 0 < s ∧ k.wr = true ∧ i + len ≤ k.elems.length) with
        | false => False
        | true => (match hi with
          | none => fun (K : Nat → Bool → List Hint → Prop) => K len c hs
          | some y => withIx (st.op y) (len + 1) c hs) fun hn hc hs =>
          (match lo with
          | none => fun (K : Nat → Bool → List Hint → Prop) => K 0 hc hs
          | some y => withIx (st.op y) (hn + 1) hc hs) fun ln lc hs => K (.slice r (i + ln) (hn - ln) lc) hs
      | _, _ => False
    | some (.slice e), .slice r i len c => match st.h.row r, sizeAt P e with
      | some k, some s => match decide (k.esz = s ∧ 0 < s) with
        | false => False
        | true => (match hi with
          | none => fun (K : Nat → Bool → List Hint → Prop) => K len c hs
          | some y => withIx (st.op y) (len + 1) c hs) fun hn hc hs =>
          (match lo with
          | none => fun (K : Nat → Bool → List Hint → Prop) => K 0 hc hs
          | some y => withIx (st.op y) (hn + 1) hc hs) fun ln lc hs => K (.slice r (i + ln) (hn - ln) lc) hs
      | _, _ => False
    | some (.slice e), .vsl r i len => match st.h.row r, sizeAt P e with
      | some k, some s => match decide (k.esz = s ∧ 0 < s) with
        | false => False
        | true => (match hi with
          | none => fun (K : Nat → Bool → List Hint → Prop) => K len false hs
          | some y => withIx (st.op y) (len + 1) false hs) fun hn hc hs =>
          (match lo with
          | none => fun (K : Nat → Bool → List Hint → Prop) => K 0 hc hs
          | some y => withIx (st.op y) (hn + 1) hc hs) fun ln _ hs => K (.vsl r (i + ln) (hn - ln)) hs
      | _, _ => False
    | some .string, x => match x.asStr with
      | some (c, s) => (match hi with
          | none => fun (K : Nat → Bool → List Hint → Prop) => K s.size c hs
          | some y => withIx (st.op y) (s.size + 1) c hs) fun hn hc hs =>
          (match lo with
          | none => fun (K : Nat → Bool → List Hint → Prop) => K 0 hc hs
          | some y => withIx (st.op y) (hn + 1) hc hs) fun ln lc hs => K (mkStr (c && lc) (s.extract ln hn)) hs
      | none => False
    | _, _ => False
  | .slice t x lo (some y) (some z) => match P.underlying t, st.op x with
    | some (.slice e), .slice r i len c => match st.h.row r, sizeAt P e with
      | some k, some s => match decide (k.esz = s ∧ 0 < s) with
        | false => False
        | true => withIx (st.op z) (len + 1) c hs fun mn mc hs => withIx (st.op y) (mn + 1) mc hs fun hn hc hs =>
          (match lo with
          | none => fun (K : Nat → Bool → List Hint → Prop) => K 0 hc hs
          | some y => withIx (st.op y) (hn + 1) hc hs) fun ln lc hs => K (.slice r (i + ln) (hn - ln) lc) hs
      | _, _ => False
    | some (.slice e), .vsl r i len => match st.h.row r, sizeAt P e with
      | some k, some s => match decide (k.esz = s ∧ 0 < s) with
        | false => False
        | true => withIx (st.op z) (len + 1) false hs fun mn mc hs => withIx (st.op y) (mn + 1) mc hs fun hn hc hs =>
          (match lo with
          | none => fun (K : Nat → Bool → List Hint → Prop) => K 0 hc hs
          | some y => withIx (st.op y) (hn + 1) hc hs) fun ln _ hs => K (.vsl r (i + ln) (hn - ln)) hs
      | _, _ => False
    | _, _ => False
  | .call { callee := .builtin b, args, argTypes } => builtinQ P b argTypes.toList (args.toList.map st.op) fun v => K v hs
  | _ => False

abbrev Call := FuncId → List AV → Hp → List Hint → (AV → Hp → List Hint → Prop) → Prop

/-- An element, values put into its cells. -/
def wrElem (e : AV) (o : Nat) (v : AV) : AV := match e with | .agg cs => .agg (fillAt cs o v.cells) | _ => v

def fitElem (e : AV) (o : Nat) (v : AV) : Bool := match e with
  | .agg cs => decide (o + v.cells.length ≤ cs.length)
  | _ => decide (o = 0 ∧ v.cells.length = 1) && v.cell1

/-- Put values into the cells of one element. -/
def Blk.write (k : Blk) (i o : Nat) (v : AV) : Blk :=
  { k with elems := k.elems.set i (match k.elems[i]? with | some e => wrElem e o v | none => v) }

/-- May the value be stored there? -/
def Blk.fits (k : Blk) (i o : Nat) (v : AV) : Bool :=
  match k.elems[i]? with
  | some e => fitElem e o v
  | none => false

/-- What a row comes to that is written. -/
def Blk.writes (k : Blk) (i o : Nat) (v : AV) (es : List AV) : Prop := (k.write i o v).elems = es

/-- The same value, nothing of it taken for written out. -/
def canon1 : AV → AV
  | .lit (.int .u64 n) => match decide (0 ≤ n ∧ n < 18446744073709551616) with
    | true => .w64 (BitVec.ofInt 64 n)
    | false => .lit (.int .u64 n)
  | .lit (.int k n) => .int k n
  | .lit (.bool b) => .bool b
  | .lit (.string s) => .val (.string s)
  | .lit (.pointer q) => .val (.pointer q)
  | x => x

def canon : AV → AV
  | .agg cs => .agg (cs.map canon1)
  | x => canon1 x

/-- Likewise, as a cell of raw memory. -/
def rawC (x : AV) : AV := canon1 x

def store0 (P : Program) (h : Hp) (t : TypeId) (a v : AV) (hs : List Hint) (K : Hp → List Hint → Prop) : Prop :=
  match a with
  | .ptr r i o st => match h.row r, sizeAt P t with
    | some k, some s => match k.wr && v.sound && (!k.flat || v.plain) && decide (v.cells.length = s) with
      | false => False
      | true => match st with
        | true => match k.fits i o v with
          | true => K (h.set r (some (k.write i o v))) hs
          | false => (match hs with
            | .arr :: hs => (match decide (o = 0 ∧ k.esz = 1 ∧ i + v.cells.length ≤ k.elems.length) with
              | true => K (h.set r (some { k with elems := k.elems.take i ++ v.cells ++ k.elems.drop (i + v.cells.length) })) hs
              | false => False)
            | _ => False)
        | false => k.fits i o v = true ∧ (match hs with
          | .rows es :: hs => k.writes i o v es ∧ K (h.set r (some { k with elems := es })) hs
          | hs => K (h.set r (some (k.write i o v))) hs)
    | _, _ => False
  | .val (.pointer q) => match memRow 0 h, sizeAt P t with
    | some (r, k), some 1 => match k.wr && (rawC v).plain1 with
      | true => (M.mwrite k.elems q (rawC v)).isSome = true ∧ K (h.set r (some ⟨true, memTy, 0, true, M.mwr k.elems q (rawC v)⟩)) hs
      | false => False
    | _, _ => False
  | _ => False

def canon2 : AV → AV
  | .tuple cs => .tuple (cs.map canon)
  | x => canon x

/-- A row into which something is put that may name a row. -/
def unflat (h : Hp) (a v : AV) : Hp :=
  match a with
  | .ptr r _ _ _ => match h.row r with
    | some k => match k.flat && !v.plain with
      | true => h.set r (some { k with flat := false })
      | false => h
    | none => h
  | _ => h

/-- Where the place is not written out, what is stored is not, either. -/
def store (P : Program) (h : Hp) (t : TypeId) (a v : AV) (hs : List Hint) (K : Hp → List Hint → Prop) : Prop :=
  match a with
  | .ptr _ _ _ false => store0 P (unflat h a (canon v)) t a (canon v) hs K
  | a => store0 P (unflat h a v) t a v hs K

/-- A new row. -/
def newRow (P : Program) (t : TypeId) (elems : List AV) (h : Hp) (K : Nat → Hp → Prop) : Prop :=
  match sizeAt P t with
  | some s => match decide (0 < s) && elems.all fun e => e.sound && decide (e.cells.length = s) with
    | true => K h.length (h ++ [some ⟨true, t, s, elems.all AV.plain, elems⟩])
    | false => False
  | none => False

def nilS : Value := .slice none 0 0

/-- append, where one of both may be nil. -/
def appendV (h : Hp) (e : TypeId) (i : TypeInfo) (rx nx ry iy ny : Nat) (hs : List Hint) (K : AV → Hp → List Hint → Prop) : Prop :=
  match h.row rx, h.row ry with
  | some kx, some ky => match kx.wr && (kx.flat == ky.flat) && decide (kx.ty = e ∧ kx.esz = i.size ∧ ky.esz = i.size) with
    | true => ((nx + ny) * i.bytes ≤ 140737488355328 ∧ nx + ny ≤ 9223372036854775807 ∧ iy + ny ≤ ky.elems.length ∧ nx ≤ kx.elems.length) ∧
        (match hs with
        | .rows es :: hs => kx.elems.take nx ++ (ky.elems.drop iy).take ny = es ∧ K (.vsl h.length 0 (nx + ny)) (h.set rx none ++ [some ⟨true, e, i.size, ky.flat, es⟩]) hs
        | hs => K (.vsl h.length 0 (nx + ny)) (h.set rx none ++ [some ⟨true, e, i.size, ky.flat, kx.elems.take nx ++ (ky.elems.drop iy).take ny⟩]) hs)
    | false => False
  | _, _ => False

/-- append to nil, of what may be nil. -/
def appendN (h : Hp) (e : TypeId) (i : TypeInfo) (ry iy ny : Nat) (hs : List Hint) (K : AV → Hp → List Hint → Prop) : Prop :=
  match h.row ry with
  | some ky => match decide (ky.esz = i.size) with
    | true => (ny * i.bytes ≤ 140737488355328 ∧ ny ≤ 9223372036854775807 ∧ iy + ny ≤ ky.elems.length) ∧
        (match hs with
        | .rows es :: hs => (ky.elems.drop iy).take ny = es ∧ K (.vsl h.length 0 ny) (h ++ [some ⟨true, e, i.size, ky.flat, es⟩]) hs
        | hs => K (.vsl h.length 0 ny) (h ++ [some ⟨true, e, i.size, ky.flat, (ky.elems.drop iy).take ny⟩]) hs)
    | false => False
  | _ => False

/-- append, of slices. -/
def appendA (h : Hp) (e : TypeId) (i : TypeInfo) (x y : AV) (hs : List Hint) (K : AV → Hp → List Hint → Prop) : Prop :=
  match x, y with
  | .lit (.slice none 0 0), .lit (.slice none 0 0) => K (.lit nilS) h hs
  | .slice r j n s, .lit (.slice none 0 0) => K (.slice r j n s) h hs
  | .lit (.slice none 0 0), .slice ry iy ny sy => match h.row ry with
    | some ky => match decide (ky.esz = i.size) with
      | true =>
        match sy, ny, hs with
        | true, 0, hs => K (.lit nilS) h hs
        | true, n + 1, hs => need true ((n + 1) * i.bytes ≤ 140737488355328 ∧ n + 1 ≤ 9223372036854775807 ∧ iy + (n + 1) ≤ ky.elems.length)
            (K (.slice h.length 0 (n + 1) true) (h ++ [some ⟨true, e, i.size, ky.flat, (ky.elems.drop iy).take (n + 1)⟩]) hs)
        | false, ny, .br true :: hs => (0 < ny ∧ ny * i.bytes ≤ 140737488355328 ∧ ny ≤ 9223372036854775807 ∧ iy + ny ≤ ky.elems.length) ∧
            K (.slice h.length 0 ny false) (h ++ [some ⟨true, e, i.size, ky.flat, (ky.elems.drop iy).take ny⟩]) hs
        | false, ny, .br false :: hs => ny = 0 ∧ K (.lit nilS) h hs
        | _, _, _ => False
      | false => False
    | none => False
  | .slice rx 0 nx sx, .slice ry iy ny sy => match h.row rx, h.row ry with
    | some kx, some ky => match kx.wr && decide (kx.ty = e ∧ kx.esz = i.size ∧ ky.esz = i.size) with
      | true => need (sx && sy) ((nx + ny) * i.bytes ≤ 140737488355328 ∧ nx + ny ≤ 9223372036854775807 ∧ iy + ny ≤ ky.elems.length ∧ nx ≤ kx.elems.length)
          (K (.slice h.length 0 (nx + ny) (sx && sy)) (h.set rx none ++ [some ⟨true, e, i.size, kx.flat && ky.flat, kx.elems.take nx ++ (ky.elems.drop iy).take ny⟩]) hs)
      | false => False
    | _, _ => False
  | _, _ => False

def appendW (h : Hp) (e : TypeId) (i : TypeInfo) (x y : AV) (hs : List Hint) (K : AV → Hp → List Hint → Prop) : Prop :=
  match x, y with
  | .vsl r j n, .lit (.slice none 0 0) => K (.vsl r j n) h hs
  | .lit (.slice none 0 0), .vsl ry iy ny => appendN h e i ry iy ny hs K
  | .slice rx 0 nx _, .vsl ry iy ny => appendV h e i rx nx ry iy ny hs K
  | .vsl rx 0 nx, .slice ry iy ny _ => appendV h e i rx nx ry iy ny hs K
  | .vsl rx 0 nx, .vsl ry iy ny => appendV h e i rx nx ry iy ny hs K
  | x, y => appendA h e i x y hs K

/-- A slice: its row, its first element, how many there are; are these written out? -/
def AV.sl : AV → Option (Nat × Nat × Nat × Bool)
  | .slice r i n st => some (r, i, n, st)
  | .vsl r i n => some (r, i, n, false)
  | _ => none

/-- copy: elements of one row are put over those of another one, as many as the shorter slice has. -/
def copyR (h : Hp) (i : TypeInfo) (st : Bool) (rx ix nx ry iy ny : Nat) (hs : List Hint) (K : AV → Hp → List Hint → Prop) : Prop :=
  match h.row rx, h.row ry with
  | some kx, some ky => match kx.wr && (!kx.flat || ky.flat) && decide (kx.esz = i.size ∧ ky.esz = i.size) with
    | true => match hs with
      | .ix n :: hs => (n = min ny nx ∧ ix + nx ≤ kx.elems.length ∧ iy + ny ≤ ky.elems.length) ∧
        (match hs with
        | .rows es :: hs => kx.elems.take ix ++ (ky.elems.drop iy).take n ++ kx.elems.drop (ix + n) = es ∧ K (.int .i64 n) (h.set rx (some { kx with elems := es })) hs
        | hs => K (.int .i64 n) (h.set rx (some { kx with elems := kx.elems.take ix ++ (ky.elems.drop iy).take n ++ kx.elems.drop (ix + n) })) hs)
      | hs => need st (ix + nx ≤ kx.elems.length ∧ iy + ny ≤ ky.elems.length)
        (K (mkInt st .i64 (min ny nx : Nat)) (h.set rx (some { kx with elems := kx.elems.take ix ++ (ky.elems.drop iy).take (min ny nx) ++ kx.elems.drop (ix + min ny nx) })) hs)
    | false => False
  | _, _ => False

def copyA (h : Hp) (i : TypeInfo) (x y : AV) (hs : List Hint) (K : AV → Hp → List Hint → Prop) : Prop :=
  match x, y with
  | .lit (.slice none 0 0), .lit (.slice none 0 0) => K (.lit (.int .i64 0)) h hs
  | .lit (.slice none 0 0), y => (match y.sl with | some _ => K (.lit (.int .i64 0)) h hs | none => False)
  | x, .lit (.slice none 0 0) => (match x.sl with | some _ => K (.lit (.int .i64 0)) h hs | none => False)
  | x, y => match x.sl, y.sl with
    | some (rx, ix, nx, sx), some (ry, iy, ny, sy) => copyR h i (sx && sy) rx ix nx ry iy ny hs K
    | _, _ => False

/-- clear, of a slice: elements become zero. -/
def clearA (h : Hp) (i : TypeInfo) (z x : AV) (hs : List Hint) (K : AV → Hp → List Hint → Prop) : Prop :=
  match x.sl with
  | some (r, j, n, _) => (match h.row r with
    | some k => (match k.wr && (canon z).sound && (!k.flat || (canon z).plain) && decide (k.esz = i.size), hs with
      | true, .rows es :: hs => (j + n ≤ k.elems.length ∧ k.elems.take j ++ List.replicate n (canon z) ++ k.elems.drop (j + n) = es) ∧ K (.lit (.tuple #[])) (h.set r (some { k with elems := es })) hs
      | _, _ => False)
    | none => False)
  | none => (match x with
    | .lit (.slice none 0 0) => K (.lit (.tuple #[])) h hs
    | _ => False)

/-- A call's result that is a row: its elements said in other words. -/
def nameR (v : AV) (h : Hp) (hs : List Hint) (K : AV → Hp → List Hint → Prop) : Prop :=
  match hs with
  | .nm es :: hs => match v with
    | .vsl r 0 n => match h.row r with
      | some ⟨w, t, s, f, es0⟩ => (es0 = es ∧ n = es.length) ∧ K (.vsl r 0 es.length) (h.set r (some ⟨w, t, s, f, es⟩)) hs
      | none => False
    | v => K v h (.nm es :: hs)
  | hs => K v h hs

def evOp (C : Call) (P : Program) (st : St) (o : Op) (hs : List Hint) (K : AV → Hp → List Hint → Prop) : Prop :=
  match o with
  | .alloc t => match zeroOf P t with
    | some z => match hs with
      | .arr :: hs => (match z.cells.all AV.cell1 && decide (z.cells.length ≤ 16777216) with
        | true => K (.ptr st.h.length 0 0 true) (st.h ++ [some ⟨true, t, 1, z.cells.all AV.plain1, z.cells⟩]) hs
        | false => False)
      | hs => newRow P t [z] st.h fun r h => K (.ptr r 0 0 true) h hs
    | none => False
  | .box t x => match hs, st.op x with
    | .arr :: hs, .agg cs => (match cs.all AV.cell1 && decide (cs.length ≤ 16777216) with
      | true => K (.ptr st.h.length 0 0 true) (st.h ++ [some ⟨true, t, 1, cs.all AV.plain1, cs⟩]) hs
      | false => False)
    | hs, _ => newRow P t [st.op x] st.h fun r h => K (.ptr r 0 0 true) h hs
  | .store t a x => store P st.h t (st.op a) (st.op x) hs fun h hs => K (.lit undef) h hs
  | .makeMap t none => match mapTy t with
    | true => K (.mp st.h.length) (st.h ++ [some ⟨true, t, 0, true, []⟩]) hs
    | false => False
  | .lookup t m x ok => match st.op m, hs with
    | .mp r, .cell v :: hs => (match st.h.obj r with
      | some k => (match decide (k.ty = t) with
        | true => M.mlook t k.elems (canon (st.op x)) ok v ∧ K v st.h hs
        | false => False)
      | none => False)
    | _, _ => False
  | .mapUpdate t m x y => match st.op m, hs with
    | .mp r, .rows es :: hs => (match st.h.obj r with
      | some k => (match decide (k.ty = t ∧ t ≠ frzTy) && k.wr with
        | true => M.mupd t k.elems (canon (st.op x)) (canon (st.op y)) es ∧ K (.lit undef) (st.h.set r (some ⟨true, k.ty, 0, true, es⟩)) hs
        | false => False)
      | none => False)
    | _, _ => False
  | .buildSlice t len parts => match P.underlying t with
    | some (.slice e) => match decide (parts.toList.map (·.1) = List.range len), sizeAt P e with
      | true, some (s + 1) => match decide (len * (s + 1) ≤ 2 ^ 24), zeroOf P e with
        | true, some _ => newRow P e (parts.toList.map fun p => canon (st.op p.2)) st.h fun r h => K (.slice r 0 len true) h hs
        | _, _ => False
      | _, _ => False
    | _ => False
  | .makeSlice t l c => match P.underlying t, (st.op l).asInt, (st.op c).asInt with
    | some (.slice e), some (s, _, n), some (s', _, m) => match P.info? e, zeroOf P e with
      | some i, some z => match z.sound with
        | true => need (s && s') (0 ≤ n ∧ n ≤ m ∧ m ≤ 9223372036854775807 ∧ (i.bytes : Int) * m ≤ 281474976710656 ∧ 0 < i.size)
          (match hs with
          | .arr :: hs => (match (canon z).sound with
            | true => K (.slice st.h.length 0 n.toNat (s && s')) (st.h ++ [some ⟨true, e, i.size, (canon z).plain, List.replicate n.toNat (canon z)⟩]) hs
            | false => False)
          | hs => K (.slice st.h.length 0 n.toNat (s && s')) (st.h ++ [some ⟨true, e, i.size, z.plain, List.replicate n.toNat z⟩]) hs)
        | false => False
      | _, _ => False
    | _, _, _ => False
  | .call { callee := .builtin .append, args, argTypes } => match args.toList.map st.op, argTypes.toList with
    | [x, y], [t, t'] => match decide (t = t'), P.underlying t with
      | true, some (.slice e) => match P.info? e, zeroOf P e with
        | some i, some _ => match decide (0 < i.size) with
          | true => appendW st.h e i x y hs K
          | false => False
        | _, _ => False
      | _, _ => False
    | _, _ => False
  | .call { callee := .builtin .clear, args, argTypes } => match args.toList.map st.op, argTypes.toList with
    | [x], [t] => match P.underlying t with
      | some (.slice e) => match P.info? e, zeroOf P e with
        | some i, some z => match decide (0 < i.size) with
          | true => clearA st.h i z x hs K
          | false => False
        | _, _ => False
      | _ => False
    | _, _ => False
  | .call { callee := .builtin .copy, args, argTypes } => match args.toList.map st.op, argTypes.toList with
    | [x, y], [t, _] => match P.underlying t with
      | some (.slice e) => match P.info? e with
        | some i => match decide (0 < i.size) with
          | true => copyA st.h i x y hs K
          | false => False
        | none => False
      | _ => False
    | _, _ => False
  | .call { callee := .value f, args, argTypes := _ } => match st.op f with
    | .func (.func g) first captured => C g (first ++ args.toList.map st.op ++ captured) st.h hs fun v h hs => nameR v h hs K
    | _ => False
  | .call { callee := .builtin .len, args, argTypes } => match mapArg argTypes.toList with
    | true => match args.toList.map st.op, argTypes.toList, hs with
      | [.mp r], [t], .cell v :: hs => (match st.h.obj r with
        | some k => (match decide (k.ty = t) with
          | true => M.mlen t k.elems v ∧ K v st.h hs
          | false => False)
        | none => False)
      | _, _, _ => False
    | false => builtinQ P .len argTypes.toList (args.toList.map st.op) fun v => K v st.h hs
  | o => match quiet o with
    | true => qOp P st o hs fun v hs => K v st.h hs
    | false => False

/-- Is the operation wanted (its guard)? A guard that may hold variables is settled by a hint, and stands written out from there on. -/
def wanted (ops : List Oper) (o : Oper) (st : St) (hs : List Hint) (K : Bool → St → List Hint → Prop) : Prop :=
  match o.guard with
  | none => K true st hs
  | some (j, want) => match ops[j]? with
    | some oj => match oj.dst with
      | some d => match st.t.getD d .any with
        | .lit (.tuple _) => K false st hs
        | x => test x hs fun p hs => K (p == want) { st with t := st.t.set d (.lit (.bool p)) } hs
      | none => False
    | none => False

/-- Carried out at once, not when it is asked for. -/
def fN (n : Nat) (K : Nat → Prop) : Prop := match n with | 0 => K 0 | n + 1 => K (n + 1)

def fAV (x : AV) (K : AV → Prop) : Prop :=
  match x with
  | .any => K .any
  | .lit v => K (.lit v)
  | .int k n => K (.int k n)
  | .w64 x => K (.w64 x)
  | .bool b => K (.bool b)
  | .val v => K (.val v)
  | .ptr r i o st => K (.ptr r i o st)
  | .slice r i len st => K (.slice r i len st)
  | .vsl r i len => K (.vsl r i len)
  | .mp r => K (.mp r)
  | .agg cs => K (.agg cs)
  | .tuple vs => K (.tuple vs)
  | .func fn a b => K (.func fn a b)
  | .iface t v => K (.iface t v)

def fT : List AV → (List AV → Prop) → Prop
  | [], K => K []
  | x :: l, K => fAV x fun x => fT l fun l => K (x :: l)

def fB : List Bool → (List Bool → Prop) → Prop
  | [], K => K []
  | true :: l, K => fB l fun l => K (true :: l)
  | false :: l, K => fB l fun l => K (false :: l)

def fA (a : Array Bool) (K : Array Bool → Prop) : Prop := match a with | ⟨l⟩ => fB l fun l => K ⟨l⟩

def fO (o : Oper) (K : Oper → Prop) : Prop := match o with | ⟨a, b, c, d, e, f⟩ => K ⟨a, b, c, d, e, f⟩

def fH : Hp → (Hp → Prop) → Prop
  | [], K => K []
  | none :: h, K => fH h fun h => K (none :: h)
  | some ⟨w, t, s, f, es⟩ :: h, K => fH h fun h => K (some ⟨w, t, s, f, es⟩ :: h)

def fSt (st : St) (K : St → Prop) : Prop := fT st.t fun t => fH st.h fun h => K ⟨t, h⟩

def evOne (C : Call) (P : Program) (ops : List Oper) (o : Oper) (st : St) (hs : List Hint) (K : St → List Hint → Prop) : Prop :=
  wanted ops o st hs fun w st hs => match w with
    | true => evOp C P st o.op hs fun v h hs => fSt (({ st with h := h } : St).put o.dst v) fun st => K st hs
    | false => fSt (st.put o.dst (.lit undef)) fun st => K st hs

/-- A byte. -/
def byteOf : AV → Option UInt8
  | .lit (.int .u8 n) => some (UInt8.ofNat n.toNat)
  | .int .u8 n => some (UInt8.ofNat n.toNat)
  | _ => none

/-- Bytes of a row, as a text. -/
def evConv (P : Program) (st : St) (o : Oper) (s d : TypeId) (x : Operand) (K : St → Prop) : Prop :=
  match o.guard with
  | some _ => False
  | none => match P.underlying s, P.underlying d, st.op x with
    | some (.slice e), some .string, .slice r i len _ => match P.underlying e, sizeAt P e, st.h.row r with
      | some (.int .u8), some 1, some k => match decide (k.esz = 1 ∧ i + len ≤ k.elems.length), allSome (((k.elems.drop i).take len).map byteOf) with
        | true, some bs => K (st.put o.dst (.val (.string ⟨bs.toArray⟩)))
        | _, _ => False
      | _, _, _ => False
    | _, _, _ => False

/-- A new block of raw memory. -/
def evNew (P : Program) (st : St) (o : Oper) (t : TypeId) (K : Nat → St → Prop) : Prop :=
  match o.guard with
  | some _ => False
  | none => match memRow 0 st.h, zeroOf P t with
    | some (r, k), some z => match k.wr && (z.cells.map rawC).all AV.plain1 && z.sound with
      | true => ∀ b, M.mget k.elems b = none → K b (({ st with h := st.h.set r (some ⟨true, memTy, 0, true, k.elems ++ [M.mblk b t (z.cells.map rawC)]⟩) } : St).put o.dst (.val (.pointer (some ⟨b, 0, none⟩))))
      | false => False
    | _, _ => False

/-- All that stores of frozen slices say. -/
def frzAll : Hp → List AV
  | [] => []
  | some k :: h => match k.esz, decide (k.ty = frzTy) with
    | 0, true => k.elems ++ frzAll h
    | _, _ => frzAll h
  | none :: h => frzAll h

/-- Does a store say so? -/
def fzIn (e : AV) : Hp → Prop
  | [] => False
  | some ⟨_, ty, z, _, es⟩ :: h => match z, decide (ty = frzTy) with
    | 0, true => M.memF e es ∨ fzIn e h
    | _, _ => fzIn e h
  | none :: h => fzIn e h

/-- The store that may take more. -/
def frzRow : Nat → Hp → Option (Nat × Blk)
  | _, [] => none
  | i, some k :: h => match k.esz, decide (k.ty = frzTy) && k.wr with
    | 0, true => some (i, k)
    | _, _ => frzRow (i + 1) h
  | i, none :: h => frzRow (i + 1) h

/-- A slice's row is written no more: its value stands for it from now on, and the store says what it holds. -/
def absT (st : St) (d z : Nat) (es : List AV) (K : Value → St → Prop) : Prop :=
  match frzRow 0 st.h, st.t.getD d .any with
  | some (q, ⟨_, _, _, _, s⟩), .vsl r 0 n => match st.h.row r with
    | some ⟨kw, _, kz, kf, ke⟩ => match kw && kf && decide (kz = z) with
      | true => (n = es.length ∧ ke.take n = es) ∧ ∀ A c, K (.slice A es.length c) ⟨st.t.set d (.val (.slice A es.length c)), (st.h.set r none).set q (some ⟨true, frzTy, 0, true, M.catF s [M.fzE (.slice A es.length c) z es]⟩)⟩
      | false => False
    | none => False
  | some (q, ⟨_, _, _, _, s⟩), .slice r 0 n _ => match st.h.row r with
    | some ⟨kw, _, kz, kf, ke⟩ => match kw && kf && decide (kz = z) with
      | true => (n = es.length ∧ ke.take n = es) ∧ ∀ A c, K (.slice A es.length c) ⟨st.t.set d (.val (.slice A es.length c)), (st.h.set r none).set q (some ⟨true, frzTy, 0, true, M.catF s [M.fzE (.slice A es.length c) z es]⟩)⟩
      | false => False
    | none => False
  | _, _ => False

/-- A value of a store is named, as a row that is only read. -/
def nameT (st : St) (d z : Nat) (es : List AV) (K : St → Prop) : Prop :=
  match z, st.t.getD d .any with
  | z + 1, .val u => fzIn (M.fzE u (z + 1) es) st.h ∧ fSt ⟨st.t.set d (.vsl st.h.length 0 es.length), st.h ++ [some ⟨false, 0, z + 1, true, es⟩]⟩ fun st => K st
  | _, _ => False

/-- What hints say of frozen slices behind the operation that sets temporary d (or ahead of one): '.fz': a value of a store is named, as a row that is only read; '.abs': a row is put into the store; '.rd': hints that hang on what a row says. -/
def ghostT (o : Option Tmp) (st : St) (hs : List Hint) (K : St → List Hint → Prop) : Prop :=
  match hs with
  | .fz d z es :: hs' => (match decide (o = some d ∨ o = none) with
    | true => nameT st d z es fun st => K st hs'
    | false => K st hs)
  | .abs d (z + 1) es f :: _ => (match decide (o = some d) with
    | true => absT st d (z + 1) es fun u st => fSt st fun st => K st (f u)
    | false => K st hs)
  | .rd d f :: _ => (match decide (o = some d), st.t.getD d .any with
    | true, .vsl r _ _ => (match st.h.row r with
      | some ⟨_, _, _, _, es⟩ => K st (f es)
      | none => False)
    | true, _ => False
    | false, _ => K st hs)
  | hs => K st hs

def evOps (C : Call) (P : Program) (ops : List Oper) : List Oper → St → List Hint → (St → List Hint → Prop) → Prop
  | [], st, hs, K => K st hs
  | o :: rest, st, hs, K => match o.op, hs with
    | .convert s d x, .txt :: hs => evConv P st o s d x fun st => evOps C P ops rest st hs K
    | .alloc t, .new f :: _ => evNew P st o t fun b st => fSt st fun st => evOps C P ops rest st (f b) K
    | _, hs => evOne C P ops o st hs fun st hs => ghostT o.dst st hs fun st hs => evOps C P ops rest st hs K

/-- No row may be written any more. -/
def freeze (h : Hp) : Hp := h.map fun | some ⟨_, t, s, f, es⟩ => some ⟨false, t, s, f, es⟩ | none => none

/-- The first rows of h' are those of h, which it did not touch; of the new ones those that may be written. -/
def thaw (h h' : Hp) : Hp := h ++ (h'.drop h.length).map fun | some k => (match k.wr with | true => some k | false => none) | none => none

/-- A call that touches nothing that was there. -/
def frozenC (C : Call) : Call := fun f args h hs K => C f args (freeze h) hs fun v h' hs => K v (thaw h h') hs

/-- Nothing that was there is written. -/
def growing : Op → Bool
  | .store .. => false
  | .call { callee := .builtin .append, .. } => false
  | .call { callee := .builtin .copy, .. } => false
  | .call { callee := .builtin .clear, .. } => false
  | .mapUpdate .. => false
  | _ => true

/-- A region that draws its order. 'g': nothing that was there is written in it: whatever only reads comes first; else whatever reads no memory does. -/
def evAny (C : Call) (P : Program) (ops : Array Oper) (g : Bool) : Nat → Array Bool → St → List Hint → (St → List Hint → Prop) → Prop
  | 0, listed, st, hs, K => match Region.ready .any ops listed with | [] => K st hs | _ => False
  | fuel + 1, listed, st, hs, K =>
    let rs := Region.ready .any ops listed
    match rs.find? fun i => match ops[i]? with | some o => (match g with | true => quiet o.op | false => blind o.op) && Region.free .any ops listed i | none => false with
    | some i => fN i fun i => match ops[i]? with
      | some o => fO o fun o => evOne C P ops.toList o st hs fun st hs => fA (listed.setIfInBounds i true) fun L => evAny C P ops g fuel L st hs K
      | none => False
    | none => match rs with
      | [] => K st hs
      | rs => allOf rs fun i => fN i fun i => match ops[i]? with
        | some o => fO o fun o => evOne C P ops.toList o st hs fun st hs => fA (listed.setIfInBounds i true) fun L => evAny C P ops g fuel L st hs K
        | none => False
where
  allOf : List Nat → (Nat → Prop) → Prop
    | [], _ => True
    | [i], p => p i
    | i :: is, p => p i ∧ allOf is p

/-- Likewise, where 'c' says of what functions calls may write. -/
def steady (c : Option (List FuncId)) (o : Op) : Bool := match c with
  | none => growing o
  | some fs => match o with
    | .call { callee := .builtin _, .. } => growing o
    | .call { callee := .value (.func g), .. } => !fs.contains g
    | .call _ => false
    | o => growing o

/-- Those that operation n waits for, through others. -/
def reach (md : Region.Mode) (ops : Array Oper) : Nat → Nat → List Nat
  | 0, _ => []
  | fuel + 1, n => match ops[n]? with
    | some o => (o.after.toList.filter (Region.binds md)).flatMap fun e => e.on :: reach md ops fuel e.on
    | none => []

/-- The operations of a region that write what was there. -/
def writers (c : Option (List FuncId)) (ops : Array Oper) : List Nat := (List.range ops.size).filter fun n => match ops[n]? with | some o => !steady c o.op | none => false

/-- Those that only read, and for which all that write wait. -/
def firsts (c : Option (List FuncId)) (ops : Array Oper) : List Nat := (List.range ops.size).filter fun i => (match ops[i]? with | some o => quiet o.op | none => false) && (writers c ops).all fun n => (reach .any ops ops.size n).contains i

/-- Hints that hang on the operation that comes next, where an order is drawn. -/
def pickH (hs : List Hint) (i : Nat) : List Hint := match hs with
  | .pick f :: _ => f i
  | hs => hs

/-- A region that draws its order, in which something that was there is written: calls beside that touch nothing that was there. -/
def evAnyW (C : Call) (P : Program) (ops : Array Oper) (c : Option (List FuncId)) (F : List Nat) : Nat → Array Bool → St → List Hint → (St → List Hint → Prop) → Prop
  | 0, listed, st, hs, K => match Region.ready .any ops listed with | [] => K st hs | _ => False
  | fuel + 1, listed, st, hs, K =>
    let rs := Region.ready .any ops listed
    match rs.find? fun i => (F.contains i || (c.isSome && (match ops[i]? with | some o => blind o.op | none => false))) && Region.free .any ops listed i with
    | some i => fN i fun i => match ops[i]? with
      | some o => fO o fun o => evOne C P ops.toList o st hs fun st hs => fA (listed.setIfInBounds i true) fun L => evAnyW C P ops c F fuel L st hs K
      | none => False
    | none => match rs with
      | [] => K st hs
      | rs => evAny.allOf rs fun i => fN i fun i => match ops[i]? with
        | some o => fO o fun o => match steady c o.op with
          | true => evOne (frozenC C) P ops.toList o st (pickH hs i) fun st hs => fA (listed.setIfInBounds i true) fun L => evAnyW C P ops c F fuel L st hs K
          | false => ghostT none st (pickH hs i) fun st hs => evOne C P ops.toList o st hs fun st hs => ghostT o.dst st hs fun st hs => fA (listed.setIfInBounds i true) fun L => evAnyW C P ops c F fuel L st hs K
        | none => False

/-- A load from a row that stood there when the region began. -/
def pin (h0 : Hp) (st : St) (o : Op) : Bool :=
  match o with
  | .load _ x => match st.op x with
    | .ptr r _ _ _ => (match h0.row r with | some _ => true | none => false)
    | _ => false
  | _ => false

/-- A call of one of those functions, of arguments that name no row. -/
def pureC (fs : List FuncId) (st : St) (o : Op) : Bool :=
  match o with
  | .call { callee := .value (.func g), args, argTypes := _ } => fs.contains g && args.toList.all fun x => (st.op x).plain
  | _ => false

/-- What such a call gives: a value that a hint says, whatever memory holds. -/
def evPure (C : Call) (st : St) (o : Op) (hs : List Hint) (K : AV → List Hint → Prop) : Prop :=
  match o, hs with
  | .call { callee := .value (.func g), args, argTypes := _ }, .cell v :: hs => (match v.plain with
    | true => C g (args.toList.map st.op) [] [] (fun x h _ => h = [] ∧ x = v) ∧ K v hs
    | false => False)
  | _, _ => False

def evOneZ (C : Call) (P : Program) (fs : List FuncId) (ops : List Oper) (h0 : Hp) (o : Oper) (st : St) (hs : List Hint) (K : St → List Hint → Prop) : Prop :=
  wanted ops o st hs fun w st hs => match w with
    | true => match pureC fs st o.op with
      | true => evPure C st o.op hs fun v hs => fSt (st.put o.dst v) fun st => K st hs
      | false => match (blind o.op || pin h0 st o.op) && quiet o.op with
        | true => qOp P st o.op hs fun v hs => fSt (st.put o.dst v) fun st => K st hs
        | false => False
    | false => fSt (st.put o.dst (.lit undef)) fun st => K st hs

/-- A region that draws its order, in which nothing is written that stood there when it began ('h0'): what reads no memory, or of that alone, comes first; so do calls of 'fs'. -/
def evAnyZ (C : Call) (P : Program) (ops : Array Oper) (fs : List FuncId) (h0 : Hp) : Nat → Array Bool → St → List Hint → (St → List Hint → Prop) → Prop
  | 0, listed, st, hs, K => match Region.ready .any ops listed with | [] => K st hs | _ => False
  | fuel + 1, listed, st, hs, K =>
    let rs := Region.ready .any ops listed
    match rs.find? fun i => match ops[i]? with | some o => (blind o.op || pin h0 st o.op || pureC fs st o.op) && Region.free .any ops listed i | none => false with
    | some i => fN i fun i => match ops[i]? with
      | some o => fO o fun o => evOneZ C P fs ops.toList h0 o st hs fun st hs => fA (listed.setIfInBounds i true) fun L => evAnyZ C P ops fs h0 fuel L st hs K
      | none => False
    | none => match rs with
      | [] => K st hs
      | rs => evAny.allOf rs fun i => fN i fun i => match ops[i]? with
        | some o => fO o fun o => evOne C P ops.toList o st hs fun st hs => fA (listed.setIfInBounds i true) fun L => evAnyZ C P ops fs h0 fuel L st hs K
        | none => False

def evRegion (C : Call) (P : Program) (ops : Array Oper) (draw : Bool) (st : St) (hs : List Hint) (K : St → List Hint → Prop) : Prop :=
  match draw with
  | false => evOps C P ops.toList ops.toList st hs K
  | true => match Region.noSelect ops with
    | true => match hs with
      | .wrc fs :: hs => evAnyW C P ops (some fs) (firsts (some fs) ops) ops.size (Array.replicate ops.size false) st hs K
      | .pur fs :: hs => evAnyZ C P ops fs st.h ops.size (Array.replicate ops.size false) ⟨st.t, freeze st.h⟩ hs fun s hs => K ⟨s.t, thaw st.h s.h⟩ hs
      | hs => match ops.toList.all fun o => growing o.op with
        | true => evAny (frozenC C) P ops true ops.size (Array.replicate ops.size false) st hs K
        | false => match hs with
          | .old :: hs => evAny C P ops false ops.size (Array.replicate ops.size false) st hs K
          | .frz :: hs => evAnyZ C P ops [] st.h ops.size (Array.replicate ops.size false) ⟨st.t, freeze st.h⟩ hs fun s hs => K ⟨s.t, thaw st.h s.h⟩ hs
          | hs => evAnyW C P ops none (firsts none ops) ops.size (Array.replicate ops.size false) st hs K
    | false => False

def loopN (f : St → List Hint → (Ex → St → List Hint → Prop) → Prop) : Nat → St → List Hint → (Ex → St → List Hint → Prop) → Prop
  | 0, _, _, _ => False
  | n + 1, st, hs, K => f st hs fun e st hs => match e with
    | .normal => loopN f n st hs K
    | e => K e st hs

mutual
/-- The names of rows turned: name j of the new ones stands for σ[j] of the old ones. -/
def AV.ren (σ : List Nat) : AV → AV
  | .ptr r i o st => .ptr (σ.getD r 0) i o st
  | .slice r i len st => .slice (σ.getD r 0) i len st
  | .vsl r i len => .vsl (σ.getD r 0) i len
  | .mp r => .mp (σ.getD r 0)
  | .agg cs => .agg (AV.renL σ cs)
  | .tuple cs => .tuple (AV.renL σ cs)
  | .func fn a b => .func fn (AV.renL σ a) (AV.renL σ b)
  | .iface t v => .iface t (AV.ren σ v)
  | x => x
def AV.renL (σ : List Nat) : List AV → List AV
  | [] => []
  | x :: l => AV.ren σ x :: AV.renL σ l
end

mutual
def AV.under (n : Nat) : AV → Bool
  | .ptr r _ _ _ => decide (r < n)
  | .slice r _ _ _ => decide (r < n)
  | .vsl r _ _ => decide (r < n)
  | .mp r => decide (r < n)
  | .agg cs => AV.underL n cs
  | .tuple cs => AV.underL n cs
  | .func _ a b => AV.underL n a && AV.underL n b
  | .iface _ v => AV.under n v
  | _ => true
def AV.underL (n : Nat) : List AV → Bool
  | [] => true
  | x :: l => AV.under n x && AV.underL n l
end

/-- 'y' says no more than 'x'. -/
def AV.sub (σ : List Nat) (x y : AV) : Prop := match y with | .any => True | y => y.under σ.length = true ∧ (y.ren σ = x ∨ y.ren σ = canon2 x)

def subT (σ : List Nat) : List AV → List AV → Prop
  | [], [] => True
  | x :: l, y :: m => x.sub σ y ∧ subT σ l m
  | _, _ => False

def subB (σ : List Nat) (k k' : Blk) : Prop :=
  (k'.wr = true → k.wr = true) ∧ k'.ty = k.ty ∧ k'.esz = k.esz ∧ k'.flat = k.flat ∧
  (match k.flat with
   | true => k'.elems = k.elems ∨ k'.elems = k.elems.map canon
   | false => k'.elems.all (AV.under σ.length) = true ∧ (k'.elems.map (AV.ren σ) = k.elems ∨ k'.elems.map (AV.ren σ) = k.elems.map canon))

def subH (σ : List Nat) (h : Hp) : List Nat → Hp → Prop
  | [], [] => True
  | r :: l, k' :: m => (match k' with
      | none => True
      | some k' => match h.row r with
        | some k => subB σ k k'
        | none => match h.obj r with | some k => k' = k | none => False) ∧ subH σ h l m
  | _, _ => False

/-- State s' says no more than s does, the rows' names turned by σ; the first n0 names are kept. -/
def St.sub (n0 : Nat) (σ : List Nat) (s s' : St) : Prop :=
  σ.Nodup ∧ σ.take n0 = List.range n0 ∧ subT σ s.t s'.t ∧ subH σ s.h σ s'.h

/-- The new name of an old one. -/
def idxN (r : Nat) : Nat → List Nat → Option Nat
  | _, [] => none
  | j, x :: l => match decide (x = r) with
    | true => some j
    | false => idxN r (j + 1) l

mutual
def AV.unrenO (σ : List Nat) : AV → Option AV
  | .ptr r i o st => match idxN r 0 σ with | some j => some (.ptr j i o st) | none => none
  | .slice r i len st => match idxN r 0 σ with | some j => some (.slice j i len st) | none => none
  | .vsl r i len => match idxN r 0 σ with | some j => some (.vsl j i len) | none => none
  | .mp r => match idxN r 0 σ with | some j => some (.mp j) | none => none
  | .agg cs => match AV.unrenL σ cs with | some l => some (.agg l) | none => none
  | .tuple cs => match AV.unrenL σ cs with | some l => some (.tuple l) | none => none
  | .func fn a b => match AV.unrenL σ a, AV.unrenL σ b with | some a, some b => some (.func fn a b) | _, _ => none
  | .iface t v => match AV.unrenO σ v with | some v => some (.iface t v) | none => none
  | .any => some .any
  | .lit v => some (.lit v)
  | .int k n => some (.int k n)
  | .w64 x => some (.w64 x)
  | .bool b => some (.bool b)
  | .val v => some (.val v)
def AV.unrenL (σ : List Nat) : List AV → Option (List AV)
  | [] => some []
  | x :: l => match AV.unrenO σ x, AV.unrenL σ l with | some x, some l => some (x :: l) | _, _ => none
end

def weakT (σ : List Nat) : List Nat → List AV → Option (List AV)
  | [], [] => some []
  | m :: ms, x :: xs => match m with
    | 0 => match weakT σ ms xs with | some l => some (.any :: l) | none => none
    | 1 => match x.unrenO σ, weakT σ ms xs with | some y, some l => some (y :: l) | _, _ => none
    | _ => match (canon2 x).unrenO σ, weakT σ ms xs with | some y, some l => some (y :: l) | _, _ => none
  | _, _ => none

def weakB (σ : List Nat) (m : Nat) (k : Blk) : Option Blk :=
  match k.flat with
  | true => match m with
    | 1 => some k
    | _ => some { k with elems := k.elems.map canon }
  | false => match AV.unrenL σ (match m with | 1 => k.elems | _ => k.elems.map canon) with
    | some l => some { k with elems := l }
    | none => none

def weakH (σ : List Nat) (h : Hp) : List Nat → List Nat → Option Hp
  | [], [] => some []
  | r :: rs, m :: ms => match weakH σ h rs ms with
    | none => none
    | some l => match m with
      | 0 => some (none :: l)
      | m => match h.row r with
        | some k => match weakB σ m k with
          | some k' => some (some k' :: l)
          | none => none
        | none => match h.obj r with
          | some k => some (some k :: l)
          | none => none
  | _, _ => none

/-- A slice may be nil from now on. -/
def toV : AV → Option AV
  | .slice r i n _ => some (.vsl r i n)
  | .vsl r i n => some (.vsl r i n)
  | _ => none

def addSl : List Nat → St → Option St
  | [], s => some s
  | j :: l, s => match toV (s.t.getD j .any) with
    | some x => addSl l { s with t := s.t.set j x }
    | none => none

/-- Boxes that hold nil slices hold rows of their own that are empty. -/
def addBx : List (Nat × TypeId × Nat) → Hp → Option Hp
  | [], h => some h
  | (r, ty, esz) :: l, h => match h.row r, esz with
    | some k, _ + 1 => match k.elems with
      | [.lit (.slice none 0 0)] => addBx l (h.set r (some { k with flat := false, elems := [.vsl h.length 0 0] }) ++ [some ⟨true, ty, esz, true, []⟩])
      | _ => none
    | _, _ => none

def addPh : List (Nat × TypeId × Nat) → St → Option St
  | [], s => some s
  | (j, ty, esz) :: l, s => match s.t.getD j .any with
    | .lit (.slice none 0 0) => match esz with
      | 0 => none
      | _ + 1 => addPh l ⟨s.t.set j (.vsl s.h.length 0 0), s.h ++ [some ⟨true, ty, esz, true, []⟩]⟩
    | .ptr r 0 0 _ => match addBx [(r, ty, esz)] s.h with
      | some h => addPh l ⟨s.t, h⟩
      | none => none
    | _ => none

def weakSt1 (n0 : Nat) (M : Modes) (s : St) : Option St :=
  match decide (M.σ.Nodup ∧ M.σ.take n0 = List.range n0) with
  | false => none
  | true => match weakT M.σ M.tm s.t, weakH M.σ s.h M.σ M.rm with
    | some t, some h => match addSl M.sl ⟨t, h⟩ with
      | some s => addPh M.ph s
      | none => none
    | _, _ => none

mutual
/-- The rows that a value names, in order. -/
def AV.names : AV → List Nat
  | .ptr r _ _ _ => [r]
  | .slice r _ _ _ => [r]
  | .vsl r _ _ => [r]
  | .mp r => [r]
  | .agg cs => AV.namesL cs
  | .tuple cs => AV.namesL cs
  | .func _ a b => AV.namesL a ++ AV.namesL b
  | .iface _ v => AV.names v
  | _ => []
def AV.namesL : List AV → List Nat
  | [] => []
  | x :: l => AV.names x ++ AV.namesL l
end

def addNames (n0 : Nat) : List Nat → List Nat → List Nat
  | [], acc => acc
  | r :: l, acc => match decide (r < n0) || acc.contains r with
    | true => addNames n0 l acc
    | false => addNames n0 l (acc ++ [r])

def seenT (n0 : Nat) : List Nat → List AV → List Nat → List Nat
  | m :: ms, x :: xs, acc => match m with
    | 0 => seenT n0 ms xs acc
    | _ => seenT n0 ms xs (addNames n0 x.names acc)
  | _, _, acc => acc

def seenR (n0 : Nat) (h : Hp) : List Nat → List Nat → List Nat
  | [], acc => acc
  | r :: l, acc => match h.row r with
    | some k => match k.flat with
      | true => seenR n0 h l acc
      | false => seenR n0 h l (addNames n0 (AV.namesL k.elems) acc)
    | none => seenR n0 h l acc

/-- The rows that those temporaries name, first. -/
def prioT (n0 : Nat) (ts : List AV) : List Nat → List Nat → List Nat
  | [], acc => acc
  | j :: l, acc => prioT n0 ts l (addNames n0 (AV.names (ts.getD j .any)) acc)

/-- Where no rows are named: those that the kept temporaries name, in their order, and what these rows name; all is kept of them (or as the first mode says; behind it: temporaries whose rows come first). -/
def autoM (n0 : Nat) (M : Modes) (s : St) : Modes :=
  match M.σ with
  | [] =>
    let a := seenT n0 M.tm s.t (prioT n0 s.t M.rm.tail [])
    let a := seenR n0 s.h a a
    let a := seenR n0 s.h a a
    let σ := List.range n0 ++ a
    let m := match M.rm with | [] => 1 | m :: _ => m
    ⟨M.tm, σ, σ.map fun r => (match s.h[r]? with | some (some _) => m | _ => 0), M.sl, M.ph⟩
  | _ => M

def weakSt (n0 : Nat) (M : Modes) (s : St) : Option St := weakSt1 n0 (autoM n0 M s) s

/-- A hint at the end of a round may say that another thing is kept there. -/
def endM (M : Modes) : List Hint → Modes
  | .md M1 :: _ => M1
  | _ => M

/-- The end of a round. -/
def roundEnd (n0 : Nat) (M M' : Modes) (N : St → Prop) (K : Ex → St → List Hint → Prop) (hs : List Hint) : Ex → St → List Hint → Prop := fun e s' hs2 => match e with
  | .normal => match weakSt n0 (endM M hs2) s' with
    | some T => N T
    | none => False
  | e => match weakSt n0 (endM M' hs2) s' with
    | some T => K e T hs
    | none => False

/-- No jump leads out. -/
def noJmp (K : Ex → St → List Hint → Prop) : Ex → St → List Hint → Prop := fun e s hs => match e with
  | .goto _ => False
  | e => K e s hs

/-- Jumps to a label: to a state of a kind. -/
def jmpEnd (n0 l : Nat) (M : Modes) (N : St → Prop) (K : Ex → St → List Hint → Prop) : Ex → St → List Hint → Prop := fun e s hs => match e with
  | .goto l' => match decide (l' = l) with
    | true => (match weakSt n0 (endM M hs) s with
      | some T => N T
      | none => False)
    | false => False
  | e => K e s hs

/-- The part of a piece of code that is walked: all of it; what is ahead of a label; what is behind it. -/
inductive Md where
  | all
  | til (l : Nat)
  | beh (l : Nat)

/-- Stands a label on the spine? -/
def onSpine : Code → Nat → Bool
  | .seq a b, l => onSpine a l || onSpine b l
  | .label l', l => l' == l
  | _, _ => false

/-- Cases, as hints name them. -/
def splits : Nat → List Hint → (List Hint → Prop) → Prop
  | 0, hs, K => K hs
  | n + 1, hs, K => match hs with
    | .split b l r :: _ => (b = true → splits n l K) ∧ (b = false → splits n r K)
    | hs => K hs

/-- From here on all ways go on as one: what is left is a state of a kind. Other endings go on as they were. -/
def mrg (n0 : Nat) (c : Bool) (f : List Hint → (Ex → St → List Hint → Prop) → Prop) (hs : List Hint) (K : Ex → St → List Hint → Prop) : Prop :=
  match hs with
  | .mrg c' α Φ I M l af :: hs => match c == c' with
    | true => (f l fun e s hs2 => match e with
      | .normal => match weakSt n0 (endM M hs2) s with
        | some T => ∃ p, T = Φ p ∧ I p
        | none => False
      | e => K e s hs2) ∧ ∀ p, I p → K .normal (Φ p) (af p ++ hs)
    | false => f (.mrg c' α Φ I M l af :: hs) K
  | hs => f hs K

def keepM (n : Nat) (keep : List Nat) : Modes := ⟨(List.range n).map fun i => (match keep.contains i with | true => 1 | false => 0), [], [], [], []⟩

mutual
/-- Are they the same? Asked of what holds no variables. -/
def AV.same : AV → AV → Bool
  | .any, .any => true
  | .lit (.int k n), .lit (.int k' n') => decide (k = k') && decide (n = n')
  | .lit (.bool b), .lit (.bool b') => decide (b = b')
  | .int k n, .int k' n' => decide (k = k') && decide (n = n')
  | .w64 x, .w64 x' => decide (x = x')
  | .bool b, .bool b' => decide (b = b')
  | .ptr r i o s, .ptr r' i' o' s' => decide (r = r') && (decide (i = i') && (decide (o = o') && decide (s = s')))
  | .slice r i n s, .slice r' i' n' s' => decide (r = r') && (decide (i = i') && (decide (n = n') && decide (s = s')))
  | .vsl r i n, .vsl r' i' n' => decide (r = r') && (decide (i = i') && decide (n = n'))
  | .mp r, .mp r' => decide (r = r')
  | .agg cs, .agg cs' => AV.sameL cs cs'
  | _, _ => false
def AV.sameL : List AV → List AV → Bool
  | [], [] => true
  | x :: l, x' :: l' => AV.same x x' && AV.sameL l l'
  | _, _ => false
end

def Blk.same : Option Blk → Option Blk → Bool
  | some ⟨w, t, s, f, es⟩, some ⟨w', t', s', f', es'⟩ => decide (w = w') && (decide (t = t') && (decide (s = s') && (decide (f = f') && AV.sameL es es')))
  | none, none => true
  | _, _ => false

def Hp.same : Hp → Hp → Bool
  | [], [] => true
  | x :: l, x' :: l' => Blk.same x x' && Hp.same l l'
  | _, _ => false

/-- The first n bits of c. -/
def bitsN : Nat → Nat → List Bool
  | 0, _ => []
  | n + 1, c => decide (c % 2 = 1) :: bitsN n (c / 2)

def allL {α : Type} (p : α → Prop) : List α → Prop
  | [] => True
  | [x] => p x
  | x :: l => p x ∧ allL p l

def hasN (css : List (List Nat)) (c : Nat) : Bool := css.any fun cs => cs.any fun d => Nat.beq d c

/-- A state is the one that belongs to c. -/
def toDag (n0 : Nat) (M : Nat → Modes) (Φ : Nat → St) (c : Nat) (st : St) : Prop := match weakSt n0 (M c) st with
  | some T => (match AV.sameL T.t (Φ c).t && Hp.same T.h (Φ c).h with
    | true => True
    | false => T = Φ c)
  | none => False

/-- A region that draws its order: to each set of operations that may have come up (its number) a state belongs; one operation more leads from each to the next. -/
def evDag (n0 : Nat) (C : Call) (P : Program) (ops : Array Oper) (css : List (List Nat)) (M : Nat → Modes) (Φ : Nat → St) (st : St) (hs : List Hint) (K : St → List Hint → Prop) : Prop :=
  match hasN css 0 with
  | false => False
  | true => toDag n0 M Φ 0 st ∧ allL (fun cs => allL (fun c => fN c fun c => fA ⟨bitsN ops.size c⟩ fun L => match Region.ready .any ops L with
    | [] => K (Φ c) hs
    | rs => evAny.allOf rs fun i => fN i fun i => match ops[i]? with
      | some o => fN (c + 2 ^ i) fun d => (match hasN css d && decide (bitsN ops.size d = (L.setIfInBounds i true).toList) with
        | true => fO o fun o => evOne C P ops.toList o (Φ c) [] fun st' _ => toDag n0 M Φ d st'
        | false => False)
      | none => False) cs) css

/-- The orders of a region go on from one state: of n temporaries those that are named are kept. -/
def Hint.cut (n : Nat) (keep : List Nat) (T : St) (l : List Hint) : Hint :=
  .mrg true Unit (fun _ => T) (fun _ => True) (keepM n keep) l fun _ => []

end Go.Sx
