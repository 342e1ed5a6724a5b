/-
  Layer 5: entries as values of the calculus.
-/
import Derived.Test.YtbhbokhdkapkpaaL1Base
import Derived.Test.YtbhbokhdkapkpaaSxS
import Derived.Test.YtbhbokhdkapkpaaM11
namespace Go.Proofs.Ytbhbokhdkapkpaa.L1
open Go.Sx Go.Sx.M

/-- An entry's cells. -/
def enE (x : En) : AV := .agg [.w64 x.v, .w64 x.w, .w64 x.m, .w64 x.n, .int .i64 x.len, .int .i64 x.act]

/-- What is in a cell. -/
def cW : AV → BitVec 64
  | .w64 x => x
  | _ => 0#64
def cI : AV → Int
  | .int _ n => n
  | _ => 0

/-- The entry of such cells. -/
def deE1 (x : AV) : En := ⟨cW (x.cells.getD 0 .any), cW (x.cells.getD 1 .any), cW (x.cells.getD 2 .any), cW (x.cells.getD 3 .any), cI (x.cells.getD 4 .any), cI (x.cells.getD 5 .any)⟩

/-- The entries of a row. -/
def deE (l : List AV) : List En := l.map deE1

theorem deE_map (l : List En) : deE (l.map enE) = l := by
  unfold deE
  rw [List.map_map]
  exact List.map_id l

theorem whole_row {T : Type} (de : T → AV) (l : List T) : List.take (l.map de).length (List.drop 0 (l.map de)) = l.map de := by rw [List.drop_zero, List.take_length]

/-- Rows of the document's entries. -/
def pRefE : Par := some (43, 6)

theorem read_rows {T : Type} [Inhabited T] {de : T → AV} {l : List T} {b : Bool} {ty : TypeId} {esz : Nat} {t : TypeId} {o : Nat} {k : Int} {y : AV} (h0 : 0 ≤ k) (h1 : k < ((l.map de).length : Int)) (hp : partOf Try.prog t (de (at' l k.toNat)).cells o = some y) :
    (Blk.mk b ty esz true (l.map de)).read Try.prog t (0 + k.toNat) o = some y := by
  rw [List.length_map] at h1
  unfold Blk.read
  rw [Nat.zero_add, List.getElem?_map, at_get (show k.toNat < l.length by omega)]
  exact hp

theorem ref_word (x : En) : partOf Try.prog 41 (enE x).cells 0 = some (.agg [.w64 x.v, .w64 x.w, .w64 x.m, .w64 x.n]) := by kernel_rfl
theorem ref_whole (x : En) : partOf Try.prog 43 (enE x).cells 0 = some (enE x) := by kernel_rfl
theorem ref_len (x : En) : partOf Try.prog 3 (enE x).cells 4 = some (.int .i64 x.len) := by kernel_rfl
theorem ref_act (x : En) : partOf Try.prog 3 (enE x).cells 5 = some (.int .i64 x.act) := by kernel_rfl

/-- What the cells of an entry of a law's are. -/
theorem En_dec (cs : List Value) (h : fitsAll [.int .u64, .int .u64, .int .u64, .int .u64, .int .i64, .int .i64] cs) : ∃ x : En, (enE x).cells.length = 6 ∧ (enE x).sound = true ∧ AVRs [] (enE x).cells cs := by
  obtain ⟨x0, l0, rfl, f0, g0⟩ := fits_cons h
  obtain ⟨x1, l1, rfl, f1, g1⟩ := fits_cons g0
  obtain ⟨x2, l2, rfl, f2, g2⟩ := fits_cons g1
  obtain ⟨x3, l3, rfl, f3, g3⟩ := fits_cons g2
  obtain ⟨x4, l4, rfl, f4, g4⟩ := fits_cons g3
  obtain ⟨x5, l5, rfl, f5, g5⟩ := fits_cons g4
  obtain rfl := fits_nil g5
  obtain ⟨v, rfl⟩ := fits_u64 f0
  obtain ⟨w, rfl⟩ := fits_u64 f1
  obtain ⟨m, rfl⟩ := fits_u64 f2
  obtain ⟨n, rfl⟩ := fits_u64 f3
  obtain ⟨k, rfl, _⟩ := f4
  obtain ⟨j, rfl, _⟩ := f5
  exact ⟨⟨v, w, m, n, k, j⟩, rfl, rfl, .cons (.w64 _) (.cons (.w64 _) (.cons (.w64 _) (.cons (.w64 _) (.cons (.int _ _) (.cons (.int _ _) .nil)))))⟩

end Go.Proofs.Ytbhbokhdkapkpaa.L1
