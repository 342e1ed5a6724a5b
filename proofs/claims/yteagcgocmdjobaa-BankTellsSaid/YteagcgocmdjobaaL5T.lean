/-
  Layer 5: entries as values of the calculus.
-/
import Derived.Test.YteagcgocmdjobaaR
namespace Go.Proofs.Yteagcgocmdjobaa.L1
open Go.Sx Go.Sx.M

/-- An entry's cells. -/
def enE (x : En) : AV := .agg [.w64 x.v, .w64 x.w, .w64 x.m, .w64 x.n, .int .i64 x.len, .int .i64 x.act]

/-- The entry of such cells. -/
def deE1 (x : AV) : En := ⟨cW (x.cells.getD 0 .any), cW (x.cells.getD 1 .any), cW (x.cells.getD 2 .any), cW (x.cells.getD 3 .any), cI (x.cells.getD 4 .any), cI (x.cells.getD 5 .any)⟩

/-- The entries of a row. -/
def deE (l : List AV) : List En := l.map deE1

theorem deE_map (l : List En) : deE (l.map enE) = l := by
  unfold deE
  rw [List.map_map]
  exact List.map_id l

/-- Rows of the document's entries. -/
def pRefE : Par := some (48, 6)

theorem ref_word (x : En) : partOf Try.prog 46 (enE x).cells 0 = some (.agg [.w64 x.v, .w64 x.w, .w64 x.m, .w64 x.n]) := by kernel_rfl
theorem ref_whole (x : En) : partOf Try.prog 48 (enE x).cells 0 = some (enE x) := by kernel_rfl
theorem ref_len (x : En) : partOf Try.prog 3 (enE x).cells 4 = some (.int .i64 x.len) := by kernel_rfl
theorem ref_act (x : En) : partOf Try.prog 3 (enE x).cells 5 = some (.int .i64 x.act) := by kernel_rfl

/-- What the cells of an entry of a law's are. -/
theorem En_dec (cs : List Value) (h : fitsAll [.int .u64, .int .u64, .int .u64, .int .u64, .int .i64, .int .i64] cs) : ∃ x : En, (enE x).cells.length = 6 ∧ (enE x).sound = true ∧ AVRs [] (enE x).cells cs := by
  obtain ⟨x0, l0, rfl, f0, g0⟩ := fits_cons h
  obtain ⟨x1, l1, rfl, f1, g1⟩ := fits_cons g0
  obtain ⟨x2, l2, rfl, f2, g2⟩ := fits_cons g1
  obtain ⟨x3, l3, rfl, f3, g3⟩ := fits_cons g2
  obtain ⟨x4, l4, rfl, f4, g4⟩ := fits_cons g3
  obtain ⟨x5, l5, rfl, f5, g5⟩ := fits_cons g4
  obtain rfl := fits_nil g5
  obtain ⟨v, rfl⟩ := fits_u64 f0
  obtain ⟨w, rfl⟩ := fits_u64 f1
  obtain ⟨m, rfl⟩ := fits_u64 f2
  obtain ⟨n, rfl⟩ := fits_u64 f3
  obtain ⟨k, rfl, _⟩ := f4
  obtain ⟨j, rfl, _⟩ := f5
  exact ⟨⟨v, w, m, n, k, j⟩, rfl, rfl, .cons (.w64 _) (.cons (.w64 _) (.cons (.w64 _) (.cons (.w64 _) (.cons (.int _ _) (.cons (.int _ _) .nil)))))⟩

end Go.Proofs.Yteagcgocmdjobaa.L1
