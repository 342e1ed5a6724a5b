/-
  Objects: what stands behind a pointer to a value of a type of the program's whose fields are its own business: which rows of memory may stand for which of its states. 'reprO ty es h': the rows h (the first one is the value itself) stand for state es of type ty.
-/
import Derived.Test.YthfgocpejlhanaaSxA
namespace Go.Sx

/-- Must draws be counted (a sort wants it)? Where not, functions may be ranged over. -/
def strict : Bool := true

/-- Which raw memory may stand for a state of a type. -/
def rawI (_ty : TypeId) (_es _m : List AV) : Prop := False

theorem rawI_mem {es m : List AV} : ¬ rawI memTy es m := fun h => h

theorem rawI_frz {es m : List AV} : ¬ rawI frzTy es m := fun h => h

def reprO (_ty : TypeId) (_es : List AV) (_h : Hp) : Prop := False

theorem reprO_mem {es : List AV} {h : Hp} : ¬ reprO memTy es h := fun h => h

theorem reprO_frz {es : List AV} {h : Hp} : ¬ reprO frzTy es h := fun h => h

/-- They may all be written. -/
theorem repr_wr {ty : TypeId} {es : List AV} {h : Hp} (hr : reprO ty es h) : ∀ (r : Nat) (k : Blk), h[r]? = some (some k) → k.wr = true := hr.elim

/-- The value itself comes first. -/
theorem repr_head {ty : TypeId} {es : List AV} {h : Hp} (hr : reprO ty es h) : ∃ k : Blk, h[0]? = some (some k) := hr.elim

/-- What stands in blocks that are no cells (a map's), for a state of a type. -/
def extI (_ty : TypeId) (_es : List AV) (_b : Nat) (_own : List Nat) (_w : World) : Prop := False

theorem ext_frame {ty : TypeId} {es : List AV} {b : Nat} {own : List Nat} {w w' : World} (h : extI ty es b own w) (_ : w.heap.size ≤ w'.heap.size) (_ : ∀ x ∈ own, w'.heap[x]? = w.heap[x]?) : extI ty es b own w' := h.elim

theorem ext_kind {ty : TypeId} {es : List AV} {b : Nat} {own : List Nat} {w : World} (h : extI ty es b own w) : ∀ x ∈ own, (∃ cur t fr, w.heap[x]? = some (Obj.cells cur t fr)) ∨ (strict = true ∧ ∃ l c, w.heap[x]? = some (Obj.map l c)) := h.elim

theorem ext_mem {es : List AV} {b : Nat} {own : List Nat} {w : World} : ¬ extI memTy es b own w := fun h => h

theorem ext_frz {es : List AV} {b : Nat} {own : List Nat} {w : World} : ¬ extI frzTy es b own w := fun h => h

theorem ext_made {t : TypeId} (h : mapTy t = true) (w : World) : extI t [] w.heap.size [w.heap.size] (w.alloc (.map #[] 0)) := by cases h

end Go.Sx
