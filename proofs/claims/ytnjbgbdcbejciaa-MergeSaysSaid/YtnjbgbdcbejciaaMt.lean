/-
  Which types are maps that the calculus holds as objects: made empty.
-/
import Derived.Calls
namespace Go.Sx

def piT : TypeId := 91

def mapTy (t : TypeId) : Bool := decide (t = piT)

end Go.Sx
