/-
  Which types are maps that the calculus holds as objects: made empty; what is looked up in one, or put into it.
-/
import Derived.Test.YthfgocpejlhanaaSxA0
namespace Go.Sx

def mapTy (_ : TypeId) : Bool := false

namespace M

/-- In a map of type t in state es, key k says v (with ', ok': a pair). -/
def mlook (_t : TypeId) (_es : List AV) (_k : AV) (_ok : Bool) (_v : AV) : Prop := False

/-- In a map of type t in state es, key k is put to v: then it is in state es'. -/
def mupd (_t : TypeId) (_es : List AV) (_k _v : AV) (_es' : List AV) : Prop := False

/-- A map of type t in state es has v keys. -/
def mlen (_t : TypeId) (_es : List AV) (_v : AV) : Prop := False

end M
end Go.Sx
