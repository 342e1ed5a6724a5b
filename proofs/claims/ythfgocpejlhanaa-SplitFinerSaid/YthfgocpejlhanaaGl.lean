/-
  The package-level variables whose cells are known, by their numbers, with what they hold: those that the rows of this seat list as laid.
-/
import Derived.Calls
namespace Go.Sx

/-- Package-level variables whose cells are known. -/
def globs : List (Nat × Array Value) := [
  ]

end Go.Sx
