/-
  Texts in one: R L5T L8T.
-/
import Derived.Test.YtbkaibciiogdkaaL1a
import Derived.Test.YtbkaibciiogdkaaSxS
import Derived.Test.YtbkaibciiogdkaaMa

section
/-
  Rows of elements of one kind: reading them; what loops over them keep.
-/
namespace Go.Proofs.Ytbkaibciiogdkaa.L1
open Go.Sx Go.Sx.M

/-- What is in a cell. -/
def cW : AV → BitVec 64
  | .w64 x => x
  | _ => 0#64
def cI : AV → Int
  | .int _ n => n
  | _ => 0

theorem whole_row {T : Type} (de : T → AV) (l : List T) : List.take (l.map de).length (List.drop 0 (l.map de)) = l.map de := by rw [List.drop_zero, List.take_length]

theorem read_rows {T : Type} [Inhabited T] {de : T → AV} {l : List T} {b : Bool} {ty : TypeId} {esz : Nat} {t : TypeId} {o : Nat} {k : Int} {y : AV} (h0 : 0 ≤ k) (h1 : k < ((l.map de).length : Int)) (hp : partOf Try.prog t (de (at' l k.toNat)).cells o = some y) :
    (Blk.mk b ty esz true (l.map de)).read Try.prog t (0 + k.toNat) o = some y := by
  rw [List.length_map] at h1
  unfold Blk.read
  rw [Nat.zero_add, List.getElem?_map, at_get (show k.toNat < l.length by omega)]
  exact hp

theorem up {P : Nat → Prop} {k : Nat} (h : ∀ i, i < k → P i) (hk : P k) : ∀ i, i < k + 1 → P i := fun i hi => by
  rcases Nat.lt_or_eq_of_le (Nat.le_of_lt_succ hi) with h' | rfl
  · exact h i h'
  · exact hk

theorem take_all {T : Type} {en : T → AV} {l : List T} {k : Nat} (h : l.length = k) : List.take k (List.drop 0 (l.map en)) = l.map en := by
  rw [List.drop_zero, List.take_of_length_le (by rw [List.length_map]; omega)]

theorem zLe (n : Nat) : (0 + n ≤ n) = True := by simp

/-- One element more. -/
theorem take_one {T : Type} [Inhabited T] {l : List T} {k : Nat} (h : k < l.length) : l.take (k + 1) = l.take k ++ [at' l k] := by
  rw [List.take_add_one, at_get h]; rfl

end Go.Proofs.Ytbkaibciiogdkaa.L1
end

section
/-
  Layer 5: entries as values of the calculus.
-/
namespace Go.Proofs.Ytbkaibciiogdkaa.L1
open Go.Sx Go.Sx.M

/-- An entry's cells. -/
def enE (x : En) : AV := .agg [.w64 x.v, .w64 x.w, .w64 x.m, .w64 x.n, .int .i64 x.len, .int .i64 x.act]

/-- What the cells of an entry of a law's are. -/
theorem En_dec (cs : List Value) (h : fitsAll [.int .u64, .int .u64, .int .u64, .int .u64, .int .i64, .int .i64] cs) : ∃ x : En, (enE x).cells.length = 6 ∧ (enE x).sound = true ∧ AVRs [] (enE x).cells cs := by
  obtain ⟨x0, l0, rfl, f0, g0⟩ := fits_cons h
  obtain ⟨x1, l1, rfl, f1, g1⟩ := fits_cons g0
  obtain ⟨x2, l2, rfl, f2, g2⟩ := fits_cons g1
  obtain ⟨x3, l3, rfl, f3, g3⟩ := fits_cons g2
  obtain ⟨x4, l4, rfl, f4, g4⟩ := fits_cons g3
  obtain ⟨x5, l5, rfl, f5, g5⟩ := fits_cons g4
  obtain rfl := fits_nil g5
  obtain ⟨v, rfl⟩ := fits_u64 f0
  obtain ⟨w, rfl⟩ := fits_u64 f1
  obtain ⟨m, rfl⟩ := fits_u64 f2
  obtain ⟨n, rfl⟩ := fits_u64 f3
  obtain ⟨k, rfl, _⟩ := f4
  obtain ⟨j, rfl, _⟩ := f5
  exact ⟨⟨v, w, m, n, k, j⟩, rfl, rfl, .cons (.w64 _) (.cons (.w64 _) (.cons (.w64 _) (.cons (.w64 _) (.cons (.int _ _) (.cons (.int _ _) .nil)))))⟩

end Go.Proofs.Ytbkaibciiogdkaa.L1
end

section
/-
  Layer 8: slots and writes as values of the calculus.
-/
namespace Go.Proofs.Ytbkaibciiogdkaa.L1
open Go.Sx Go.Sx.M

def cB : AV → Bool
  | .bool b => b
  | _ => false

/-- A slot's cells, a write's. -/
def slE (x : Sl) : AV := .agg [.bool x.ok, .w64 x.e.v, .w64 x.e.w, .w64 x.e.m, .w64 x.e.n, .int .i64 x.e.len, .int .i64 x.e.act]
def wrE (x : Wr) : AV := .agg [.int .i64 x.p, .bool x.s.ok, .w64 x.s.e.v, .w64 x.s.e.w, .w64 x.s.e.m, .w64 x.s.e.n, .int .i64 x.s.e.len, .int .i64 x.s.e.act]

def deW1 (x : AV) : Wr := ⟨cI (x.cells.getD 0 .any), ⟨cB (x.cells.getD 1 .any), ⟨cW (x.cells.getD 2 .any), cW (x.cells.getD 3 .any), cW (x.cells.getD 4 .any), cW (x.cells.getD 5 .any), cI (x.cells.getD 6 .any), cI (x.cells.getD 7 .any)⟩⟩⟩
def deW (l : List AV) : List Wr := l.map deW1
theorem deW_map (l : List Wr) : deW (l.map wrE) = l := by
  unfold deW
  rw [List.map_map]
  exact List.map_id l

def pWr : Par := some (37, 8)

theorem wr_whole (x : Wr) : partOf Try.prog 37 (wrE x).cells 0 = some (wrE x) := by kernel_rfl

theorem Sl_dec (cs : List Value) (h : fitsAll [.bool, .int .u64, .int .u64, .int .u64, .int .u64, .int .i64, .int .i64] cs) : ∃ x : Sl, (slE x).cells.length = 7 ∧ (slE x).sound = true ∧ AVRs [] (slE x).cells cs := by
  obtain ⟨y0, l0, rfl, e0, g⟩ := fits_cons h
  obtain ⟨b, rfl⟩ := e0
  obtain ⟨x, _, _, hx⟩ := En_dec _ g
  exact ⟨⟨b, x⟩, rfl, rfl, .cons (.bool _) hx⟩

theorem Wr_dec (cs : List Value) (h : fitsAll [.int .i64, .bool, .int .u64, .int .u64, .int .u64, .int .u64, .int .i64, .int .i64] cs) : ∃ x : Wr, (wrE x).cells.length = 8 ∧ (wrE x).sound = true ∧ AVRs [] (wrE x).cells cs := by
  obtain ⟨y0, l0, rfl, e0, g⟩ := fits_cons h
  obtain ⟨n, rfl, _⟩ := e0
  obtain ⟨x, _, _, hx⟩ := Sl_dec _ g
  exact ⟨⟨n, x⟩, rfl, rfl, .cons (.int _ _) hx⟩

end Go.Proofs.Ytbkaibciiogdkaa.L1
end

