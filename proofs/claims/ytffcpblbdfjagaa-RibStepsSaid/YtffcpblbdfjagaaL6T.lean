/-
  Layer 6: routes as values of the calculus.
-/
import Derived.Test.YtffcpblbdfjagaaR
import Derived.Test.YtffcpblbdfjagaaL6N
namespace Go.Proofs.Ytffcpblbdfjagaa.L1
open Go.Sx Go.Sx.M

/-- A prefix's cells; a route's. -/
def pfE (p : Pf) : AV := .agg [.w64 p.a, .w64 p.b, .int .i64 p.len]
def roE (x : Ro) : AV := .agg [.w64 x.p.a, .w64 x.p.b, .int .i64 x.p.len, .int .i64 x.act]

/-- The route of such cells. -/
def deR1 (x : AV) : Ro := ⟨⟨cW (x.cells.getD 0 .any), cW (x.cells.getD 1 .any), cI (x.cells.getD 2 .any)⟩, cI (x.cells.getD 3 .any)⟩

/-- The routes of a row. -/
def deR (l : List AV) : List Ro := l.map deR1

theorem deR_map (l : List Ro) : deR (l.map roE) = l := by
  unfold deR
  rw [List.map_map]
  exact List.map_id l

/-- Rows of routes: the program's, the document's. -/
def pRo : Par := some (29, 4)
def pRefR : Par := some (36, 4)

theorem ro_whole (x : Ro) : partOf Try.prog 29 (roE x).cells 0 = some (roE x) := by kernel_rfl
theorem rr_whole (x : Ro) : partOf Try.prog 36 (roE x).cells 0 = some (roE x) := by kernel_rfl
theorem ro_p (x : Ro) : partOf Try.prog 27 (roE x).cells 0 = some (pfE x.p) := by kernel_rfl
theorem rr_p (x : Ro) : partOf Try.prog 34 (roE x).cells 0 = some (pfE x.p) := by kernel_rfl
theorem ro_len (x : Ro) : partOf Try.prog 3 (roE x).cells 2 = some (.int .i64 x.p.len) := by kernel_rfl
theorem ro_act (x : Ro) : partOf Try.prog 3 (roE x).cells 3 = some (.int .i64 x.act) := by kernel_rfl

/-- A route, or none. -/
def roO (o : Option Ro) : Ro := o.getD ⟨⟨0#64, 0#64, 0⟩, 0⟩

/-- What the cells of a route of a law's are. -/
theorem Ro_dec (cs : List Value) (h : fitsAll [.int .u64, .int .u64, .int .i64, .int .i64] cs) : ∃ x : Ro, (roE x).cells.length = 4 ∧ (roE x).sound = true ∧ AVRs [] (roE x).cells cs := by
  obtain ⟨x0, l0, rfl, f0, g0⟩ := fits_cons h
  obtain ⟨x1, l1, rfl, f1, g1⟩ := fits_cons g0
  obtain ⟨x2, l2, rfl, f2, g2⟩ := fits_cons g1
  obtain ⟨x3, l3, rfl, f3, g3⟩ := fits_cons g2
  obtain rfl := fits_nil g3
  obtain ⟨v, rfl⟩ := fits_u64 f0
  obtain ⟨w, rfl⟩ := fits_u64 f1
  obtain ⟨k, rfl, _⟩ := f2
  obtain ⟨j, rfl, _⟩ := f3
  exact ⟨⟨⟨v, w, k⟩, j⟩, rfl, rfl, .cons (.w64 _) (.cons (.w64 _) (.cons (.int _ _) (.cons (.int _ _) .nil)))⟩

end Go.Proofs.Ytffcpblbdfjagaa.L1
