/-
  The calculus's values, and its rows of memory.
-/
import Derived.Calls
namespace Go.Sx

/-- A value as the calculus sees it. 'lit': it is written out; 'int', 'bool', 'val': it may hold variables; 'ptr r i o st': the address of cell o of element i of row r; 'slice r i len st': of row r, from element i on. 'vsl': likewise, or the nil slice, of length 0. 'st': the numbers are written out. -/
inductive AV where
  | any
  | lit (v : Value)
  | int (k : IntKind) (n : Int)
  | w64 (x : BitVec 64)
  | bool (b : Bool)
  | val (v : Value)
  | ptr (r i o : Nat) (st : Bool)
  | slice (r i len : Nat) (st : Bool)
  | vsl (r i len : Nat)
  | mp (r : Nat)
  | agg (cs : List AV)
  | tuple (vs : List AV)
  | func (fn : Fn) (first captured : List AV)
  | iface (t : TypeId) (v : AV)
  deriving Inhabited

/-- A row of memory: may it be written; its elements' type; cells of an element; do its cells name no row; the elements. -/
structure Blk where
  wr : Bool
  ty : TypeId
  esz : Nat
  flat : Bool
  elems : List AV

abbrev Hp := List (Option Blk)

end Go.Sx
