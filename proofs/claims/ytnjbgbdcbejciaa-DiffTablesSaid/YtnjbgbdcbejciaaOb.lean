/-
  Objects: piles of entries: a map from what an entry tells to the entries that tell it, those that are above last, as a slice of its own. Its state: all entries, sorted.
-/
import Derived.Test.YtnjbgbdcbejciaaSxA
import Derived.Test.YtnjbgbdcbejciaaMa
import Derived.Laws.AppendOwn
namespace Go.Sx

/-- Must draws be counted (a sort wants it)? Where not, functions may be ranged over. -/
def strict : Bool := true

/-- Which raw memory may stand for a state of a type. -/
def rawI (_ty : TypeId) (_es _m : List AV) : Prop := False

theorem rawI_mem {es m : List AV} : ¬ rawI memTy es m := fun h => h

def reprO (_ty : TypeId) (_es : List AV) (_h : Hp) : Prop := False

theorem reprO_mem {es : List AV} {h : Hp} : ¬ reprO memTy es h := fun h => h

/-- They may all be written. -/
theorem repr_wr {ty : TypeId} {es : List AV} {h : Hp} (hr : reprO ty es h) : ∀ (r : Nat) (k : Blk), h[r]? = some (some k) → k.wr = true := hr.elim

/-- The value itself comes first. -/
theorem repr_head {ty : TypeId} {es : List AV} {h : Hp} (hr : reprO ty es h) : ∃ k : Blk, h[0]? = some (some k) := hr.elim

/-- An entry's cells. -/
def encV (x : M.En) : List Value := [.int .u64 (x.v.toNat : Int), .int .u64 (x.w.toNat : Int), .int .u64 (x.m.toNat : Int), .int .u64 (x.n.toNat : Int), .int .i64 x.len, .int .i64 x.act]
def valE (x : M.En) : Value := .agg (encV x).toArray

def enTy : TypeId := 42

/-- A slice of entries, in a row of its own. -/
def ownE (w : World) (v : Value) (l : List M.En) : Prop := w.ownsRow 0 enTy 6 v l.length (l.flatMap encV)

theorem ownsRow_frame {w w' : World} {base : Nat} {e : TypeId} {size : Nat} {v : Value} {n : Nat} {xs : List Value} (h : w.ownsRow base e size v n xs) (hb : ∀ g, v.ownBlock = some g → w'.heap[g]? = w.heap[g]?) : w'.ownsRow base e size v n xs := by
  refine ⟨h.1, ?_⟩
  rcases h.2 with hn | ⟨g, cap, cur, rfl, h1, hg, rest⟩
  · exact .inl hn
  · exact .inr ⟨g, cap, cur, rfl, h1, (hb g rfl).trans hg, rest⟩

/-- Piles: what stands in the map's block. -/
structure MapE (w : World) (own : List Nat) (L : List M.En) (es : Array MapEntry) (clock : Nat) : Prop where
  born : (es.toList.map (·.born)).Nodup
  old : ∀ x ∈ es.toList, x.born < clock
  is : ∀ x ∈ es.toList, ∃ p, x.key = valE p ∧ ownE w x.val (M.plE p L) ∧ ∀ g, x.val.ownBlock = some g → g ∈ own
  all : ∀ y ∈ L, ∃ x ∈ es.toList, x.key = valE (M.tdE y)
  apart : es.toList.Pairwise fun x y => x.key ≠ y.key ∧ ∀ g, x.val.ownBlock = some g → y.val.ownBlock ≠ some g

structure MapI (w : World) (b : Nat) (own : List Nat) (L : List M.En) : Prop where
  mem : b ∈ own
  map : ∃ es clock, w.heap[b]? = some (.map es clock) ∧ MapE w own L es clock ∧ ∀ g ∈ own, g = b ∨ ∃ x ∈ es.toList, x.val.ownBlock = some g

theorem MapE.frame {w w' : World} {own : List Nat} {L : List M.En} {es : Array MapEntry} {clock : Nat} (h : MapE w own L es clock) (hb : ∀ g, (∃ x ∈ es.toList, x.val.ownBlock = some g) → w'.heap[g]? = w.heap[g]?) : MapE w' own L es clock :=
  ⟨h.born, h.old, fun x hx => let ⟨p, h1, h2, h3⟩ := h.is x hx; ⟨p, h1, ownsRow_frame h2 fun g hg => hb g ⟨x, hx, hg⟩, h3⟩, h.all, h.apart⟩

/-- Numbers by entries: what stands in the map's block. -/
structure MapF (es : Array MapEntry) (clock : Nat) (L : List (M.En × Int)) : Prop where
  born : (es.toList.map (·.born)).Nodup
  old : ∀ x ∈ es.toList, x.born < clock
  is : ∀ x ∈ es.toList, ∃ q n, x.key = valE q ∧ x.val = .int .i64 n ∧ M.fiG q L = some n
  all : ∀ q, M.fiG q L ≠ none → ∃ x ∈ es.toList, x.key = valE q
  apart : es.toList.Pairwise fun x y => x.key ≠ y.key

/-- What stands in blocks that are no cells (a map's), for a state of a type. -/
def extI (ty : TypeId) (es : List AV) (b : Nat) (own : List Nat) (w : World) : Prop :=
  (ty = piT ∧ ∃ L, es = L.map enA ∧ M.Sorted L ∧ MapI w b own L) ∨
  (ty = fiT ∧ own = [b] ∧ ∃ L l c, es = List.map M.fiA L ∧ w.heap[b]? = some (.map l c) ∧ MapF l c L)

theorem ext_frame {ty : TypeId} {es : List AV} {b : Nat} {own : List Nat} {w w' : World} (h : extI ty es b own w) (_ : w.heap.size ≤ w'.heap.size) (hb : ∀ x ∈ own, w'.heap[x]? = w.heap[x]?) : extI ty es b own w' := by
  rcases h with ⟨h1, L, h2, h3, h4, l, c, h5, h6, h7⟩ | ⟨h1, rfl, L, l, c, h2, h3, h4⟩
  · refine .inl ⟨h1, L, h2, h3, h4, l, c, (hb b h4).trans h5, h6.frame fun g hg => hb g ?_, h7⟩
    obtain ⟨x, hx, hg⟩ := hg
    obtain ⟨p, _, _, h8⟩ := h6.is x hx
    exact h8 g hg
  · exact .inr ⟨h1, rfl, L, l, c, h2, (hb b (List.mem_singleton.2 rfl)).trans h3, h4⟩

theorem ext_kind {ty : TypeId} {es : List AV} {b : Nat} {own : List Nat} {w : World} (h : extI ty es b own w) : ∀ x ∈ own, (∃ cur t fr, w.heap[x]? = some (Obj.cells cur t fr)) ∨ (strict = true ∧ ∃ l c, w.heap[x]? = some (Obj.map l c)) := by
  rcases h with ⟨h1, L, h2, h3, h4, l, c, h5, h6, h7⟩ | ⟨h1, rfl, L, l, c, h2, h3, h4⟩
  · intro g hg
    rcases h7 g hg with rfl | ⟨x, hx, hxg⟩
    · exact .inr ⟨rfl, l, c, h5⟩
    · obtain ⟨p, _, h8, _⟩ := h6.is x hx
      rcases h8.2 with ⟨e, _⟩ | ⟨g', cap, cur, e, _, hc, _⟩
      · rw [e] at hxg; cases hxg
      · rw [e] at hxg
        cases hxg
        exact .inl ⟨cur, _, _, hc⟩
  · intro g hg
    rw [List.mem_singleton] at hg
    subst hg
    exact .inr ⟨rfl, l, c, h3⟩

theorem ext_mem {es : List AV} {b : Nat} {own : List Nat} {w : World} : ¬ extI memTy es b own w := fun h => h.elim (fun h => absurd h.1 (by decide)) fun h => absurd h.1 (by decide)

theorem ext_made {t : TypeId} (h : mapTy t = true) (w : World) : extI t [] w.heap.size [w.heap.size] (w.alloc (.map #[] 0)) := by
  have hh : (w.alloc (.map #[] 0)).heap[w.heap.size]? = some (.map #[] 0) := by
    show (w.heap.push _)[w.heap.size]? = _
    simp
  unfold mapTy at h
  rw [Bool.or_eq_true] at h
  rcases h with h | h
  · exact .inl ⟨of_decide_eq_true h, [], rfl, List.Pairwise.nil, List.mem_singleton.2 rfl, #[], 0, hh, ⟨by simp, by simp, by simp, by simp, by simp⟩, fun g hg => .inl (List.mem_singleton.1 hg)⟩
  · exact .inr ⟨of_decide_eq_true h, rfl, [], #[], 0, rfl, hh, ⟨by simp, by simp, by simp, by simp [M.fiG], by simp⟩⟩

theorem ext_pil {es : List AV} {b : Nat} {own : List Nat} {w : World} (h : extI piT es b own w) : ∃ L, es = L.map enA ∧ M.Sorted L ∧ MapI w b own L := h.elim And.right fun h => absurd h.1 (by decide)

theorem pil_ext {es : List AV} {b : Nat} {own : List Nat} {w : World} (h : ∃ L, es = L.map enA ∧ M.Sorted L ∧ MapI w b own L) : extI piT es b own w := .inl ⟨rfl, h⟩

end Go.Sx
