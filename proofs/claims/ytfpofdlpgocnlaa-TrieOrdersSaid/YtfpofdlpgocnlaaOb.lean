/-
  Objects: what stands behind a pointer to a value of a type of the program's whose fields are its own business. A trie: its state is its width and the routes of its table, in order; behind it lies a tree of nodes (raw memory), or, of one that is new, a value of its own fields alone.
-/
import Derived.Test.YtfpofdlpgocnlaaTr
namespace Go.Sx

def trTy : TypeId := 84

/-- Must draws be counted (a sort wants it)? Where not, functions may be ranged over. -/
def strict : Bool := false

/-- Which raw memory may stand for a state of a type. -/
def rawI (ty : TypeId) (es m : List AV) : Prop := ty = trTy ∧ ∃ w b act L R len nds, M.TrI w b act L R len nds m ∧ es = .int .i64 w :: (M.Tr.nd ⟨b, 1, none⟩ act L R).rows 0#64 0#64 0

theorem rawI_mem {es m : List AV} : ¬ rawI memTy es m := fun h => absurd h.1 (by decide)

/-- A new one. -/
def reprO (ty : TypeId) (es : List AV) (h : Hp) : Prop := ty = trTy ∧ ∃ w cs, es = [.int .i64 w] ∧ h = [some ⟨true, trTy, 6, true, [.agg cs]⟩] ∧ cs.map canon1 = [.int .i64 w, .val (.pointer none), .val (.pointer none), .int .i64 0, .int .i64 0, .int .i64 1]

theorem reprO_mem {es : List AV} {h : Hp} : ¬ reprO memTy es h := fun h => absurd h.1 (by decide)

/-- They may all be written. -/
theorem repr_wr {ty : TypeId} {es : List AV} {h : Hp} (hr : reprO ty es h) : ∀ (r : Nat) (k : Blk), h[r]? = some (some k) → k.wr = true := by
  obtain ⟨_, w, cs, _, rfl, _⟩ := hr
  intro r k hk
  cases r with
  | zero => cases hk; rfl
  | succ r => cases hk

/-- The value itself comes first. -/
theorem repr_head {ty : TypeId} {es : List AV} {h : Hp} (hr : reprO ty es h) : ∃ k : Blk, h[0]? = some (some k) := by
  obtain ⟨_, w, cs, _, rfl, _⟩ := hr
  exact ⟨_, rfl⟩

end Go.Sx
