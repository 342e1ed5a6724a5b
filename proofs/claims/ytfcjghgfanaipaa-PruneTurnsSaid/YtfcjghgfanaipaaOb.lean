/-
  Objects: what stands behind a pointer to a value of a type of the program's whose fields are its own business: which rows of memory may stand for which of its states. 'reprO ty es h': the rows h (the first one is the value itself) stand for state es of type ty.
-/
import Derived.Test.YtfcjghgfanaipaaSxA
namespace Go.Sx

/-- Must draws be counted (a sort wants it)? Where not, functions may be ranged over. -/
def strict : Bool := true

/-- Which raw memory may stand for a state of a type. -/
def rawI (_ty : TypeId) (_es _m : List AV) : Prop := False

theorem rawI_mem {es m : List AV} : ¬ rawI memTy es m := fun h => h

def reprO (_ty : TypeId) (_es : List AV) (_h : Hp) : Prop := False

theorem reprO_mem {es : List AV} {h : Hp} : ¬ reprO memTy es h := fun h => h

/-- They may all be written. -/
theorem repr_wr {ty : TypeId} {es : List AV} {h : Hp} (hr : reprO ty es h) : ∀ (r : Nat) (k : Blk), h[r]? = some (some k) → k.wr = true := hr.elim

/-- The value itself comes first. -/
theorem repr_head {ty : TypeId} {es : List AV} {h : Hp} (hr : reprO ty es h) : ∃ k : Blk, h[0]? = some (some k) := hr.elim

end Go.Sx
