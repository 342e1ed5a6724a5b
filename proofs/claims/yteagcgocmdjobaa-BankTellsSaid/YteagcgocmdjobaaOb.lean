/-
  Objects: what stands behind a pointer to a value of a type of the program's whose fields are its own business. A bank: its state is how many slots were written, and its slots; behind it lies a value of its fields, one of which is a slice of a row of slots.
-/
import Derived.Test.YteagcgocmdjobaaSxA
namespace Go.Sx

def bkTy : TypeId := 84

/-- Must draws be counted (a sort wants it)? Where not, functions may be ranged over. -/
def strict : Bool := true

/-- Which raw memory may stand for a state of a type. -/
def rawI (_ty : TypeId) (_es _m : List AV) : Prop := False

theorem rawI_mem {es m : List AV} : ¬ rawI memTy es m := fun h => h

/-- A bank: its value, its row of slots. -/
def reprO (ty : TypeId) (es : List AV) (h : Hp) : Prop := ty = bkTy ∧ ∃ (c : Int) (l : List AV), es = .int .i64 c :: l ∧ h = [some ⟨true, bkTy, 2, false, [.agg [.slice 1 0 l.length false, .int .i64 c]]⟩, some ⟨true, 37, 7, true, l⟩]

theorem reprO_mem {es : List AV} {h : Hp} : ¬ reprO memTy es h := fun h => absurd h.1 (by decide)

/-- They may all be written. -/
theorem repr_wr {ty : TypeId} {es : List AV} {h : Hp} (hr : reprO ty es h) : ∀ (r : Nat) (k : Blk), h[r]? = some (some k) → k.wr = true := by
  obtain ⟨_, c, l, _, rfl⟩ := hr
  intro r k hk
  cases r with
  | zero => cases hk; rfl
  | succ r => cases r with
    | zero => cases hk; rfl
    | succ r => cases hk

/-- The value itself comes first. -/
theorem repr_head {ty : TypeId} {es : List AV} {h : Hp} (hr : reprO ty es h) : ∃ k : Blk, h[0]? = some (some k) := by
  obtain ⟨_, c, l, _, rfl⟩ := hr
  exact ⟨_, rfl⟩

end Go.Sx
