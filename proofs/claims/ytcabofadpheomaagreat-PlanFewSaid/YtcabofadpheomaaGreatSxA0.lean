/-
 The calculus's values, and its rows of memory.
-/
import Derived.Calls
namespace Go.Sx

inductive AV where
 |any
 |lit (v:Value)
 |int (k:IntKind) (n:Int)
 |w64 (x:BitVec 64)
 |bool (b:Bool)
 |val (v:Value)
 |ptr (r i o:Nat) (st:Bool)
 |slice (r i len:Nat) (st:Bool)
 |vsl (r i len:Nat)
 |mp (r:Nat)
 |agg (cs:List AV)
 |tuple (vs:List AV)
 |func (fn:Fn) (first captured:List AV)
 |iface (t:TypeId) (v:AV)
 deriving Inhabited

structure Blk where
 wr:Bool
 ty:TypeId
 esz:Nat
 flat:Bool
 elems:List AV

abbrev Hp:=List (Option Blk)

end Go.Sx
