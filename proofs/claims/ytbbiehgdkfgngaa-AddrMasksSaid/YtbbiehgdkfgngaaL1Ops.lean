/-
  The laws AddrOps and AddrMasks: what is done bit by bit, masks, and what is cut, are the document's.
-/
import Derived.Test.YtbbiehgdkfgngaaL1FOps
import Derived.Test.YtbbiehgdkfgngaaL1FMasks
import Derived.Test.YtbbiehgdkfgngaaL1Mask
namespace Go.Proofs.Ytbbiehgdkfgngaa.L1
open Go.Sx Go.Sx.M

noncomputable def opsCs : List (FuncId × Sx.Spec) := [(21, awakeSpec), (16, genSpec [none, none, none] opF), (20, genSpec [none] maskF), (26, genSpec [none] maskF), (27, genSpec [none, none] cutF)]

theorem opsCs_ok : ∀ e ∈ opsCs, SpecOK Try.prog e.1 e.2 := by
  intro e he
  simp only [opsCs, List.mem_cons, List.not_mem_nil, or_false] at he
  rcases he with rfl | rfl | rfl | rfl | rfl
  · exact awake
  · exact op_ok
  · exact mask_ok
  · exact amask_ok
  · exact cut_ok

theorem ops_run (a b c d : BitVec 64) : run opsCs Try.prog 3 [.agg [.w64 a, .w64 b], .agg [.w64 c, .w64 d]] [] [.br true, .br true, .br true, .br true, .br true] isTrue =
    ((a &&& c == Go.Proofs.Ytbbiehgdkfgngaa.L1.opW (0 : Int) a c && b &&& d == Go.Proofs.Ytbbiehgdkfgngaa.L1.opW (0 : Int) b d) = Bool.true ∧ (a ||| c == Go.Proofs.Ytbbiehgdkfgngaa.L1.opW (1 : Int) a c && b ||| d == Go.Proofs.Ytbbiehgdkfgngaa.L1.opW (1 : Int) b d) = Bool.true ∧ (a ^^^ c == Go.Proofs.Ytbbiehgdkfgngaa.L1.opW (2 : Int) a c && b ^^^ d == Go.Proofs.Ytbbiehgdkfgngaa.L1.opW (2 : Int) b d) = Bool.true ∧ (~~~a == Go.Proofs.Ytbbiehgdkfgngaa.L1.opW (2 : Int) a (Go.Proofs.Ytbbiehgdkfgngaa.L1.mkW (128 : Int)) && ~~~b == Go.Proofs.Ytbbiehgdkfgngaa.L1.opW (2 : Int) b (Go.Proofs.Ytbbiehgdkfgngaa.L1.mkW ((128 : Int) - (64 : Int)))) = Bool.true ∧ True ∧ Bool.true = Bool.true) := by kernel_rfl

theorem masks_run (a b : BitVec 64) (n : Int) : run opsCs Try.prog 5 [.agg [.w64 a, .w64 b], .int .i64 n] [] [.br true, .br true, .br true] isTrue =
    ((Go.Proofs.Ytbbiehgdkfgngaa.L1.mkW n == Go.Proofs.Ytbbiehgdkfgngaa.L1.mkW n && Go.Proofs.Ytbbiehgdkfgngaa.L1.mkW (n - (64 : Int)) == Go.Proofs.Ytbbiehgdkfgngaa.L1.mkW (n - (64 : Int))) = Bool.true ∧ (a &&& Go.Proofs.Ytbbiehgdkfgngaa.L1.mkW n == Go.Proofs.Ytbbiehgdkfgngaa.L1.opW (0 : Int) a (Go.Proofs.Ytbbiehgdkfgngaa.L1.mkW n) && b &&& Go.Proofs.Ytbbiehgdkfgngaa.L1.mkW (n - (64 : Int)) == Go.Proofs.Ytbbiehgdkfgngaa.L1.opW (0 : Int) b (Go.Proofs.Ytbbiehgdkfgngaa.L1.mkW (n - (64 : Int)))) = Bool.true ∧ True ∧ Bool.true = Bool.true) := by kernel_rfl

theorem not_mk {a : BitVec 64} {n : Int} (hn : 64 ≤ n) : ~~~a = opW 2 a (mkW n) := by
  refine msb_eq fun i hi => ?_
  rw [opW_msb, mkW_msb n hi, BitVec.getMsbD_not, show decide ((i : Int) < n) = true from by simp; omega, show decide (i < 64) = true from by simpa using hi]
  simp [opB]

theorem ops_law (a b c d : BitVec 64) : ∃ hs, run opsCs Try.prog 3 [.agg [.w64 a, .w64 b], .agg [.w64 c, .w64 d]] [] hs isTrue := by
  refine ⟨[.br true, .br true, .br true, .br true, .br true], ?_⟩
  rw [ops_run]
  refine ⟨by simp [opW], by simp [opW], by simp [opW], ?_, trivial, rfl⟩
  rw [not_mk (a := a) (n := 128) (by omega), not_mk (a := b) (n := 128 - 64) (by omega)]
  simp

theorem masks_law (a b : BitVec 64) (n : Int) : ∃ hs, run opsCs Try.prog 5 [.agg [.w64 a, .w64 b], .int .i64 n] [] hs isTrue := by
  refine ⟨[.br true, .br true, .br true], ?_⟩
  rw [masks_run]
  exact ⟨by simp, by simp [opW], trivial, rfl⟩

theorem ops_any : ∃ C : Sx.Call, COK Try.prog false C ∧ (∀ a b c d : BitVec 64, ∃ hs, C 3 [.agg [.w64 a, .w64 b], .agg [.w64 c, .w64 d]] [] hs isTrue) ∧
    ∀ (a b : BitVec 64) (n : Int), ∃ hs, C 5 [.agg [.w64 a, .w64 b], .int .i64 n] [] hs isTrue :=
  ⟨run opsCs Try.prog, run_ok (l := opsCs) opsCs_ok mixed noNG, ops_law, masks_law⟩

theorem ops_holds : Rows.AddrOpsSaid :=
  addrOps_of fun a0 a1 b0 b1 w => by
    obtain ⟨C, hC, h, _⟩ := ops_any
    obtain ⟨hs, h⟩ := h a0 a1 b0 b1
    exact addrOps_call hC a0 a1 b0 b1 h w

theorem masks_holds : Rows.AddrMasksSaid :=
  addrMasks_of fun a0 a1 b w => by
    obtain ⟨C, hC, _, h⟩ := ops_any
    obtain ⟨hs, h⟩ := h a0 a1 b
    exact addrMasks_call hC a0 a1 b h w

#print axioms ops_holds
#print axioms masks_holds
end Go.Proofs.Ytbbiehgdkfgngaa.L1
