/-
  The package-level variables whose cells are known, by their numbers, with what they hold: those that the rows of this seat list as laid.
-/
import Derived.Lib.ItoaNum
import Derived.Lib.TrailingZeros
import Derived.Calls
namespace Go.Sx

/-- Package-level variables whose cells are known. -/
def globs : List (Nat × Array Value) := [
  (1, (Lib.pow10Tab.map fun z => Value.int .u64 z).toArray),
  (3, (Lib.deBruijn64tab.map fun (z : Nat) => Value.int .u8 z).toArray),
  ]

end Go.Sx
