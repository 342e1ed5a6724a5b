/-
  Objects: a set of numbers: a map from a number to nothing. Its state: the numbers that were put, the last first.
-/
import Derived.Test.YtlmhnfkbingmdaaSxA
namespace Go.Sx

/-- Must draws be counted (a sort wants it)? Where not, functions may be ranged over. -/
def strict : Bool := true

/-- Which raw memory may stand for a state of a type. -/
def rawI (_ty : TypeId) (_es _m : List AV) : Prop := False

theorem rawI_mem {es m : List AV} : ¬ rawI memTy es m := fun h => h

def reprO (_ty : TypeId) (_es : List AV) (_h : Hp) : Prop := False

theorem reprO_mem {es : List AV} {h : Hp} : ¬ reprO memTy es h := fun h => h

/-- They may all be written. -/
theorem repr_wr {ty : TypeId} {es : List AV} {h : Hp} (hr : reprO ty es h) : ∀ (r : Nat) (k : Blk), h[r]? = some (some k) → k.wr = true := hr.elim

/-- The value itself comes first. -/
theorem repr_head {ty : TypeId} {es : List AV} {h : Hp} (hr : reprO ty es h) : ∃ k : Blk, h[0]? = some (some k) := hr.elim

/-- A set of numbers: what stands in the map's block. -/
structure MapK (es : Array MapEntry) (clock : Nat) (L : List Int) : Prop where
  born : (es.toList.map (·.born)).Nodup
  old : ∀ x ∈ es.toList, x.born < clock
  is : ∀ x ∈ es.toList, ∃ q, x.key = .int .i64 q ∧ q ∈ L
  all : ∀ q ∈ L, ∃ x ∈ es.toList, x.key = .int .i64 q
  apart : es.toList.Pairwise fun x y => x.key ≠ y.key

/-- What stands in blocks that are no cells (a map's), for a state of a type. -/
def extI (ty : TypeId) (es : List AV) (b : Nat) (own : List Nat) (w : World) : Prop :=
  ty = noT ∧ own = [b] ∧ ∃ L l c, es = List.map noA L ∧ w.heap[b]? = some (.map l c) ∧ MapK l c L

theorem ext_frame {ty : TypeId} {es : List AV} {b : Nat} {own : List Nat} {w w' : World} (h : extI ty es b own w) (_ : w.heap.size ≤ w'.heap.size) (hb : ∀ x ∈ own, w'.heap[x]? = w.heap[x]?) : extI ty es b own w' := by
  obtain ⟨h1, rfl, L, l, c, h2, h3, h4⟩ := h
  exact ⟨h1, rfl, L, l, c, h2, (hb b (List.mem_singleton.2 rfl)).trans h3, h4⟩

theorem ext_kind {ty : TypeId} {es : List AV} {b : Nat} {own : List Nat} {w : World} (h : extI ty es b own w) : ∀ x ∈ own, (∃ cur t fr, w.heap[x]? = some (Obj.cells cur t fr)) ∨ (strict = true ∧ ∃ l c, w.heap[x]? = some (Obj.map l c)) := by
  obtain ⟨h1, rfl, L, l, c, h2, h3, h4⟩ := h
  intro g hg
  rw [List.mem_singleton] at hg
  subst hg
  exact .inr ⟨rfl, l, c, h3⟩

theorem ext_mem {es : List AV} {b : Nat} {own : List Nat} {w : World} : ¬ extI memTy es b own w := fun h => absurd h.1 (by decide)

theorem ext_made {t : TypeId} (h : mapTy t = true) (w : World) : extI t [] w.heap.size [w.heap.size] (w.alloc (.map #[] 0)) := by
  have hh : (w.alloc (.map #[] 0)).heap[w.heap.size]? = some (.map #[] 0) := by
    show (w.heap.push _)[w.heap.size]? = _
    simp
  exact ⟨of_decide_eq_true h, rfl, [], #[], 0, rfl, hh, ⟨by simp, by simp, by simp, by simp, by simp⟩⟩

end Go.Sx
