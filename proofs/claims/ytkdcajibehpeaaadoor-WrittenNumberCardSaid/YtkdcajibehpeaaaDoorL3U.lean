/-
  Layer 3: WrittenNumber, the call.
-/
import Derived.Test.YtkdcajibehpeaaaDoorL3E
namespace Go.Proofs.YtkdcajibehpeaaaDoor.L1
open Go.Sx Go.Sx.M Go.RowKit

noncomputable def nlCs : List (FuncId × Sx.Spec) := [(12, genSpec [] awF), (21, genSpec [none, none] numberF), (22, genSpec [none, none] rnumF)]

theorem nlCs_ok : ∀ e ∈ nlCs, SpecOK Tryd.prog e.1 e.2 := by
  intro e he
  simp only [nlCs, List.mem_cons, List.not_mem_nil, or_false] at he
  rcases he with rfl | rfl | rfl
  · exact aw_ok
  · exact number_ok
  · exact rnum_ok

def nlH : List Hint := [.fork [] [.br true, .br true]]

theorem nl_run (l : List UInt8) (m : Int) : run nlCs Tryd.prog 7 [.val (.string (tx l)), .int .i64 m] [] nlH isTrue =
    ((Decidable.decide ((↑(ByteArray.size (Go.Sx.M.tx l)) : Int) > (200 : Int)) = Bool.true → Bool.true = Bool.true) ∧ (Decidable.decide ((↑(ByteArray.size (Go.Sx.M.tx l)) : Int) > (200 : Int)) = Bool.false → ByteArray.size (Go.Sx.M.tx l) ≤ (1000000 : Nat) ∧ (Go.Sx.M.numV (Array.toList (ByteArray.data (Go.Sx.M.tx l))) m == Go.Sx.M.numV (Array.toList (ByteArray.data (Go.Sx.M.tx l))) m) = Bool.true ∧ (Go.Sx.M.numOK (Array.toList (ByteArray.data (Go.Sx.M.tx l))) m == Go.Sx.M.numOK (Array.toList (ByteArray.data (Go.Sx.M.tx l))) m) = Bool.true ∧ Bool.true = Bool.true)) := by kernel_rfl

theorem nl_walk_l (m : Int) (l : List UInt8) : ∃ hs, run nlCs Tryd.prog 7 [.val (.string (tx l)), .int .i64 m] [] hs isTrue := by
  refine ⟨nlH, ?_⟩
  rw [nl_run]
  rw [tx_data, tx_size]
  refine ⟨fun _ => rfl, fun h => ?_⟩
  have hl : l.length ≤ 1000000 := by simp at h; omega
  exact ⟨hl, by simp, by simp, rfl⟩

theorem nl_any : ∃ C : Sx.Call, COK Tryd.prog false C ∧ ∀ (s : ByteArray) (m : Int), ∃ hs, C 7 [.val (.string s), .int .i64 m] [] hs isTrue := by
  refine ⟨run nlCs Tryd.prog, run_ok (l := nlCs) nlCs_ok mixed noNG, fun s m => ?_⟩
  exact forall_tx (p := fun s => ∃ hs, run nlCs Tryd.prog 7 [.val (.string s), .int .i64 m] [] hs isTrue) (nl_walk_l m) s

end Go.Proofs.YtkdcajibehpeaaaDoor.L1
