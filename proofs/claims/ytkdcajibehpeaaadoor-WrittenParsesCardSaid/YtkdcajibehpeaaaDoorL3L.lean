/-
  Layer 3: what the rows' condition on laid variables gives.
-/
import Derived.Test.YtkdcajibehpeaaaDoorL1Base
import Derived.Test.YtkdcajibehpeaaaDoorSxP
import Derived.Test.YtkdcajibehpeaaaDoorTie
import Derived.Lib.LaidTab
import Derived.LaidMore
import Derived.Lay
import Derived.SevenTiedAt
import Derived.Stop.Joined
namespace Go.Proofs.YtkdcajibehpeaaaDoor.L1
open Go.Sx Go.RowKit

theorem d64_data : (Rows.laid_math_bits_deBruijn64tab : DataW Unit) = Lib.tabData .u8 (Lib.deBruijn64tab.map fun (n : Nat) => (n : Int)) := by kernel_rfl
theorem p10_data : (Rows.laid_internal_strconv_uint64pow10 : DataW Unit) = Lib.tabData .u64 Lib.pow10Tab := by kernel_rfl

theorem var_heap {P : Program} {w : World} {name : String} {g : Nat} {cs : Array Value} (hg : P.globalNamed name = some g) (h : w.var? P name = some cs) : ∃ ty fr, w.heap[g]? = some (.cells cs ty fr) := by
  unfold World.var? at h
  rw [hg] at h
  simp only [Option.bind_some] at h
  split at h
  · rename_i cs' ty fr e
    cases h
    exact ⟨ty, fr, e⟩
  · cases h

theorem heap_lt {w : World} {g : Nat} {o : Obj} (h : w.heap[g]? = some o) : g < w.heap.size := (Array.getElem?_eq_some_iff.1 h).1

theorem glob_of {W : World} (h : laidMetH Tryd.prog Rows.writtenAddrRow.laid W) : GlobOK W.heap.size W := by
  rw [MakeChecks.laidMetH_plain _ _ _ (by kernel_rfl)] at h
  obtain ⟨ps, ⟨g0, t0, cs0, f0, p0, q0, hg0, ht0, hv0, hd0, ⟨g1, t1, cs1, f1, p1, q1, hg1, ht1, hv1, hd1, ⟨g2, t2, cs2, f2, p2, q2, hg2, ht2, hv2, hd2, _, _⟩, _⟩, _⟩, _⟩ := h
  have e1 : g1 = 3 := Option.some.inj (hg1.symm.trans (by kernel_rfl))
  have e2 : g2 = 1 := Option.some.inj (hg2.symm.trans (by kernel_rfl))
  subst e1; subst e2
  have u1 : t1 = 122 := Option.some.inj (ht1.symm.trans (by kernel_rfl))
  have u2 : t2 = 116 := Option.some.inj (ht2.symm.trans (by kernel_rfl))
  subst u1; subst u2
  rw [d64_data] at hd1
  rw [p10_data] at hd2
  have c1 := Lib.cells_of_tab (n := 64) (e := 5) (by kernel_rfl) (by kernel_rfl) (by kernel_rfl) (by kernel_rfl) hd1
  have c2 := Lib.cells_of_tab (n := 20) (e := 22) (by kernel_rfl) (by kernel_rfl) (by kernel_rfl) (by kernel_rfl) hd2
  obtain ⟨ty1, fr1, a1⟩ := var_heap hg1 hv1
  obtain ⟨ty2, fr2, a2⟩ := var_heap hg2 hv2
  intro p hp
  simp only [globs, List.mem_cons, List.not_mem_nil, or_false] at hp
  rcases hp with rfl | rfl
  · refine ⟨heap_lt a2, ty2, fr2, ?_⟩
    rw [a2, ← c2]
  · refine ⟨heap_lt a1, ty1, fr1, ?_⟩
    rw [a1, ← Array.toArray_toList (xs := cs1), c1, List.map_map]
    rfl

end Go.Proofs.YtkdcajibehpeaaaDoor.L1
