/-
  Layer 3: the runs of the laws that name none of the document's own functions.
-/
import Derived.Test.YtkdcajibehpeaaaDoorL3W
namespace Go.Proofs.YtkdcajibehpeaaaDoor.L1
open Go.Sx Go.Sx.M Go.RowKit

noncomputable def onlyCs : List (FuncId × Sx.Spec) := [(12, genSpec [] awF), (17, genSpec [none, none] ppF), (11, genSpec [none, none] paF),
  (15, genSpec [none, none] prefF), (10, genSpec [none, none] addrF), (25, genSpec [none, none] rightF), (23, genSpec [none, none] ofF), (24, genSpec [none, none] makeF)]

theorem onlyCs_ok : ∀ e ∈ onlyCs, SpecOK Tryd.prog e.1 e.2 := by
  intro e he
  simp only [onlyCs, List.mem_cons, List.not_mem_nil, or_false] at he
  rcases he with rfl | rfl | rfl | rfl | rfl | rfl | rfl | rfl
  · exact aw_ok
  · exact pp_ok
  · exact pa_ok
  · exact pref_ok
  · exact addr_ok
  · exact pright_ok
  · exact of_ok
  · exact pmake_ok

def onlyH : List Hint := [.fork [] [.fork [.fork [] [.br true]] [.br true, .fork [] [.br true]]]]

def apartH : List Hint := [.fork [] [.fork [] [.br true, .br true]]]

theorem only_run (w : Int) (l : List UInt8) : run onlyCs Tryd.prog 6 [.int .i64 w, .val (.string (tx l))] [] onlyH isTrue =
    ((Decidable.decide ((↑(ByteArray.size (Go.Sx.M.tx l)) : Int) > (200 : Int)) = Bool.true → Bool.true = Bool.true) ∧ (Decidable.decide ((↑(ByteArray.size (Go.Sx.M.tx l)) : Int) > (200 : Int)) = Bool.false → ByteArray.size (Go.Sx.M.tx l) ≤ (1000000 : Nat) ∧ ByteArray.size (Go.Sx.M.tx l) ≤ (1000000 : Nat) ∧ ((Go.Proofs.YtkdcajibehpeaaaDoor.L1.ppE w (Array.toList (ByteArray.data (Go.Sx.M.tx l))) != (0 : Int)) = Bool.true → ((Go.Sx.M.paE w (Array.toList (ByteArray.data (Go.Sx.M.tx l))) != (0 : Int)) = Bool.true → Bool.true = Bool.true) ∧ ((Go.Sx.M.paE w (Array.toList (ByteArray.data (Go.Sx.M.tx l))) != (0 : Int)) = Bool.false → (Go.Sx.M.tx (Go.Proofs.YtkdcajibehpeaaaDoor.L1.textA w (Go.Sx.M.paX w (Array.toList (ByteArray.data (Go.Sx.M.tx l)))) (Go.Sx.M.paY w (Array.toList (ByteArray.data (Go.Sx.M.tx l))))) == Go.Sx.M.tx l) = Bool.true ∧ Bool.true = Bool.true)) ∧ ((Go.Proofs.YtkdcajibehpeaaaDoor.L1.ppE w (Array.toList (ByteArray.data (Go.Sx.M.tx l))) != (0 : Int)) = Bool.false → (Go.Sx.M.tx (Go.Proofs.YtkdcajibehpeaaaDoor.L1.textP w (Go.Proofs.YtkdcajibehpeaaaDoor.L1.ppX w (Array.toList (ByteArray.data (Go.Sx.M.tx l)))) (Go.Proofs.YtkdcajibehpeaaaDoor.L1.ppY w (Array.toList (ByteArray.data (Go.Sx.M.tx l)))) (Go.Proofs.YtkdcajibehpeaaaDoor.L1.ppN w (Array.toList (ByteArray.data (Go.Sx.M.tx l))))) == Go.Sx.M.tx l) = Bool.true ∧ ((Go.Sx.M.paE w (Array.toList (ByteArray.data (Go.Sx.M.tx l))) != (0 : Int)) = Bool.true → Bool.true = Bool.true) ∧ ((Go.Sx.M.paE w (Array.toList (ByteArray.data (Go.Sx.M.tx l))) != (0 : Int)) = Bool.false → (Go.Sx.M.tx (Go.Proofs.YtkdcajibehpeaaaDoor.L1.textA w (Go.Sx.M.paX w (Array.toList (ByteArray.data (Go.Sx.M.tx l)))) (Go.Sx.M.paY w (Array.toList (ByteArray.data (Go.Sx.M.tx l))))) == Go.Sx.M.tx l) = Bool.true ∧ Bool.true = Bool.true)))) := by kernel_rfl

theorem apart_run (w : Int) (a b : BitVec 64) (n : Int) (c d : BitVec 64) (m : Int) : run onlyCs Tryd.prog 9 [.int .i64 w, .agg [.w64 a, .w64 b, .int .i64 n], .agg [.w64 c, .w64 d, .int .i64 m]] [] apartH isTrue =
    (((!Go.Proofs.YtkdcajibehpeaaaDoor.L1.rightB w a b n) = Bool.true → Bool.true = Bool.true) ∧ ((!Go.Proofs.YtkdcajibehpeaaaDoor.L1.rightB w a b n) = Bool.false → ((!Go.Proofs.YtkdcajibehpeaaaDoor.L1.rightB w c d m) = Bool.true → Bool.true = Bool.true) ∧ ((!Go.Proofs.YtkdcajibehpeaaaDoor.L1.rightB w c d m) = Bool.false → ((Go.Sx.M.tx (Go.Proofs.YtkdcajibehpeaaaDoor.L1.textP w a b n) == Go.Sx.M.tx (Go.Proofs.YtkdcajibehpeaaaDoor.L1.textP w c d m)) == (a == c && b == d && n == m)) = Bool.true ∧ ((Go.Sx.M.tx (Go.Proofs.YtkdcajibehpeaaaDoor.L1.textA w a b) == Go.Sx.M.tx (Go.Proofs.YtkdcajibehpeaaaDoor.L1.textA w c d)) == (a == c && b == d)) = Bool.true ∧ Bool.true = Bool.true))) := by kernel_rfl

end Go.Proofs.YtkdcajibehpeaaaDoor.L1
