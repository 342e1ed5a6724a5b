/-
  Layer 3: contract of the document's own ParsePrefix; WrittenParses, the call.
-/
import Derived.Test.YtkdcajibehpeaaaDoorL3X
import Derived.Test.YtkdcajibehpeaaaDoorL3N
namespace Go.Proofs.YtkdcajibehpeaaaDoor.L1
open Go.Sx Go.Sx.M Go.RowKit

noncomputable def rppCs : List (FuncId × Sx.Spec) := [(19, genSpec [none, none] paF), (22, genSpec [none, none] rnumF), (13, genSpec [none, none] rightF)]

noncomputable def wrCs : List (FuncId × Sx.Spec) := [(12, genSpec [] awF), (11, genSpec [none, none] paF), (19, genSpec [none, none] paF),
  (17, genSpec [none, none] ppF), (20, genSpec [none, none] ppF)]

noncomputable def rpSt (w : Int) (l : List UInt8) (k : Nat) : St :=
  ⟨[.int .i64 w, .val (.string (tx l)), .any, .any, .ptr 0 0 0 true, .lit (.int .i64 0), .val (.string (tx l)), .val (.string (tx [])), .int .i64 k, .any, .any, .any, .any, .any, .any, .any, .any, .any, .any, .any, .any, .any, .any, .any, .any, .any, .any, .any, .any, .any, .any, .any, .any, .any, .any, .any, .any, .any, .any, .any, .any, .any, .any, .any, .any, .any, .any, .any, .any, .any, .any, .any, .any, .any, .any, .any, .any, .any, .any],
   [some ⟨true, 32, 3, true, [.agg [.lit (.int .u64 0), .lit (.int .u64 0), .lit (.int .i64 0)]]⟩]⟩
def rpM0 : Modes := ⟨[1, 1, 0, 0, 1, 1, 1, 2, 2, 0, 0, 0, 0, 0, 0, 0, 0, 0, 0, 0, 0, 0, 0, 0, 0, 0, 0, 0, 0, 0, 0, 0, 0, 0, 0, 0, 0, 0, 0, 0, 0, 0, 0, 0, 0, 0, 0, 0, 0, 0, 0, 0, 0, 0, 0, 0, 0, 0, 0], [0], [1], [], []⟩
def rpM : Modes := ⟨[1, 1, 0, 0, 1, 1, 1, 1, 1, 0, 0, 0, 0, 0, 0, 0, 0, 0, 0, 0, 0, 0, 0, 0, 0, 0, 0, 0, 0, 0, 0, 0, 0, 0, 0, 0, 0, 0, 0, 0, 0, 0, 0, 0, 0, 0, 0, 0, 0, 0, 0, 0, 0, 0, 0, 0, 0, 0, 0], [0], [1], [], []⟩
def rpM' : Modes := ⟨[1, 0, 0, 0, 1, 1, 1, 1, 0, 0, 0, 0, 0, 0, 0, 0, 0, 0, 0, 0, 0, 0, 0, 0, 0, 0, 0, 0, 0, 0, 0, 0, 0, 0, 0, 0, 0, 0, 0, 0, 0, 0, 0, 0, 0, 0, 0, 0, 0, 0, 0, 0, 0, 0, 0, 0, 0, 0, 0], [0], [1], [], []⟩
def rpI (l : List UInt8) (k : Nat) : Prop := k ≤ l.length ∧ (47 : UInt8) ∉ l.take k
noncomputable def rpH (w : Int) (l : List UInt8) : List Hint := [.linv _ 0 (rpSt w l) (rpI l) (fun k => 1000001 - k) rpM0 rpM rpM' (fun _ => [.fork [] [.fork [] [.fork [] []]]]) fun k =>
  [.fork [.dy, rnC l k, .fork [.dy, .nw, .dy] [.nw]] []]]

def wrH : List Hint := [.fork [] [.br true, .br true, .br true, .br true]]

theorem rpp_run (w : Int) (l : List UInt8) (r : AV) : run rppCs Tryd.prog 20 [.int .i64 w, .val (.string (tx l))] [] (rpH w l) (yields (.v r)) =
    ((Go.Sx.St.mk [Go.Sx.AV.int Go.IntKind.i64 w, Go.Sx.AV.val (Go.Value.string (Go.Sx.M.tx l)), Go.Sx.AV.any, Go.Sx.AV.any, Go.Sx.AV.ptr (0 : Nat) (0 : Nat) (0 : Nat) Bool.true, Go.Sx.AV.lit (Go.Value.int Go.IntKind.i64 (0 : Int)), Go.Sx.AV.val (Go.Value.string (Go.Sx.M.tx l)), Go.Sx.AV.val (Go.Value.string (Go.Sx.bstr [])), Go.Sx.AV.int Go.IntKind.i64 (0 : Int), Go.Sx.AV.any, Go.Sx.AV.any, Go.Sx.AV.any, Go.Sx.AV.any, Go.Sx.AV.any, Go.Sx.AV.any, Go.Sx.AV.any, Go.Sx.AV.any, Go.Sx.AV.any, Go.Sx.AV.any, Go.Sx.AV.any, Go.Sx.AV.any, Go.Sx.AV.any, Go.Sx.AV.any, Go.Sx.AV.any, Go.Sx.AV.any, Go.Sx.AV.any, Go.Sx.AV.any, Go.Sx.AV.any, Go.Sx.AV.any, Go.Sx.AV.any, Go.Sx.AV.any, Go.Sx.AV.any, Go.Sx.AV.any, Go.Sx.AV.any, Go.Sx.AV.any, Go.Sx.AV.any, Go.Sx.AV.any, Go.Sx.AV.any, Go.Sx.AV.any, Go.Sx.AV.any, Go.Sx.AV.any, Go.Sx.AV.any, Go.Sx.AV.any, Go.Sx.AV.any, Go.Sx.AV.any, Go.Sx.AV.any, Go.Sx.AV.any, Go.Sx.AV.any, Go.Sx.AV.any, Go.Sx.AV.any, Go.Sx.AV.any, Go.Sx.AV.any, Go.Sx.AV.any, Go.Sx.AV.any, Go.Sx.AV.any, Go.Sx.AV.any, Go.Sx.AV.any, Go.Sx.AV.any, Go.Sx.AV.any] [Option.some (Go.Sx.Blk.mk Bool.true (32 : Nat) (3 : Nat) Bool.true [Go.Sx.AV.agg [Go.Sx.AV.lit (Go.Value.int Go.IntKind.u64 (0 : Int)), Go.Sx.AV.lit (Go.Value.int Go.IntKind.u64 (0 : Int)), Go.Sx.AV.lit (Go.Value.int Go.IntKind.i64 (0 : Int))]])] = Go.Proofs.YtkdcajibehpeaaaDoor.L1.rpSt w l (0 : Nat) ∧ Go.Proofs.YtkdcajibehpeaaaDoor.L1.rpI l (0 : Nat)) ∧ ∀ (p : Nat), Go.Proofs.YtkdcajibehpeaaaDoor.L1.rpI l p → (Decidable.decide ((↑p : Int) < (↑(ByteArray.size (Go.Sx.M.tx l)) : Int)) = Bool.true → ((0 : Int) ≤ (↑p : Int) ∧ (↑p : Int) < (↑(ByteArray.size (Go.Sx.M.tx l)) : Int)) ∧ Option.map (fun (u : UInt8) => (↑(UInt8.toNat u) : Int)) (Go.Sx.M.tx l)[Int.toNat (↑p : Int)]? = Option.some (↑(UInt8.toNat (List.getD l p (0 : UInt8))) : Int) ∧ (((↑(UInt8.toNat (List.getD l p (0 : UInt8))) : Int) == (47 : Int)) = Bool.true → ((0 : Int) ≤ (↑p : Int) ∧ (↑p : Int) < (↑(ByteArray.size (Go.Sx.M.tx l) + (1 : Nat)) : Int)) ∧ Go.Sx.inRange Go.IntKind.i64 ((↑p : Int) + (1 : Int)) ∧ ((0 : Int) ≤ (↑p : Int) + (1 : Int) ∧ (↑p : Int) + (1 : Int) < (↑(ByteArray.size (Go.Sx.M.tx l) + (1 : Nat)) : Int)) ∧ ByteArray.size (ByteArray.extract (Go.Sx.M.tx l) (0 : Nat) (Int.toNat (↑p : Int))) ≤ (1000000 : Nat) ∧ ((Go.Sx.M.paE w (Array.toList (ByteArray.data (ByteArray.extract (Go.Sx.M.tx l) (0 : Nat) (Int.toNat (↑p : Int))))) != (0 : Int)) = Bool.true → Go.Sx.AV.tuple [Go.Sx.AV.agg [Go.Sx.AV.w64 (BitVec.ofInt (64 : Nat) (0 : Int)), Go.Sx.AV.w64 (BitVec.ofInt (64 : Nat) (0 : Int)), Go.Sx.AV.int Go.IntKind.i64 (0 : Int)], Go.Sx.AV.int Go.IntKind.i64 (Go.Sx.M.paE w (Array.toList (ByteArray.data (ByteArray.extract (Go.Sx.M.tx l) (0 : Nat) (Int.toNat (↑p : Int))))))] = r) ∧ ((Go.Sx.M.paE w (Array.toList (ByteArray.data (ByteArray.extract (Go.Sx.M.tx l) (0 : Nat) (Int.toNat (↑p : Int))))) != (0 : Int)) = Bool.false → ByteArray.size (ByteArray.extract (Go.Sx.M.tx l) (Int.toNat ((↑p : Int) + (1 : Int))) (ByteArray.size (Go.Sx.M.tx l))) ≤ (1000000 : Nat) ∧ ((!Go.Sx.M.numOK (Array.toList (ByteArray.data (ByteArray.extract (Go.Sx.M.tx l) (Int.toNat ((↑p : Int) + (1 : Int))) (ByteArray.size (Go.Sx.M.tx l))))) (128 : Int)) = Bool.true → Go.Sx.AV.tuple [Go.Sx.AV.agg [Go.Sx.AV.w64 (BitVec.ofInt (64 : Nat) (0 : Int)), Go.Sx.AV.w64 (BitVec.ofInt (64 : Nat) (0 : Int)), Go.Sx.AV.int Go.IntKind.i64 (0 : Int)], Go.Sx.AV.int Go.IntKind.i64 (4 : Int)] = r) ∧ ((!Go.Sx.M.numOK (Array.toList (ByteArray.data (ByteArray.extract (Go.Sx.M.tx l) (Int.toNat ((↑p : Int) + (1 : Int))) (ByteArray.size (Go.Sx.M.tx l))))) (128 : Int)) = Bool.false → ((!Go.Proofs.YtkdcajibehpeaaaDoor.L1.rightB w (Go.Sx.M.paX w (Array.toList (ByteArray.data (ByteArray.extract (Go.Sx.M.tx l) (0 : Nat) (Int.toNat (↑p : Int)))))) (Go.Sx.M.paY w (Array.toList (ByteArray.data (ByteArray.extract (Go.Sx.M.tx l) (0 : Nat) (Int.toNat (↑p : Int)))))) (Go.Sx.M.numV (Array.toList (ByteArray.data (ByteArray.extract (Go.Sx.M.tx l) (Int.toNat ((↑p : Int) + (1 : Int))) (ByteArray.size (Go.Sx.M.tx l))))) (128 : Int))) = Bool.true → Go.Sx.AV.tuple [Go.Sx.AV.agg [Go.Sx.AV.w64 (BitVec.ofInt (64 : Nat) (0 : Int)), Go.Sx.AV.w64 (BitVec.ofInt (64 : Nat) (0 : Int)), Go.Sx.AV.int Go.IntKind.i64 (0 : Int)], Go.Sx.AV.int Go.IntKind.i64 (1 : Int)] = r) ∧ ((!Go.Proofs.YtkdcajibehpeaaaDoor.L1.rightB w (Go.Sx.M.paX w (Array.toList (ByteArray.data (ByteArray.extract (Go.Sx.M.tx l) (0 : Nat) (Int.toNat (↑p : Int)))))) (Go.Sx.M.paY w (Array.toList (ByteArray.data (ByteArray.extract (Go.Sx.M.tx l) (0 : Nat) (Int.toNat (↑p : Int)))))) (Go.Sx.M.numV (Array.toList (ByteArray.data (ByteArray.extract (Go.Sx.M.tx l) (Int.toNat ((↑p : Int) + (1 : Int))) (ByteArray.size (Go.Sx.M.tx l))))) (128 : Int))) = Bool.false → Go.Sx.AV.tuple [Go.Sx.AV.agg [Go.Sx.AV.w64 (Go.Sx.M.paX w (Array.toList (ByteArray.data (ByteArray.extract (Go.Sx.M.tx l) (0 : Nat) (Int.toNat (↑p : Int)))))), Go.Sx.AV.w64 (Go.Sx.M.paY w (Array.toList (ByteArray.data (ByteArray.extract (Go.Sx.M.tx l) (0 : Nat) (Int.toNat (↑p : Int)))))), Go.Sx.AV.int Go.IntKind.i64 (Go.Sx.M.numV (Array.toList (ByteArray.data (ByteArray.extract (Go.Sx.M.tx l) (Int.toNat ((↑p : Int) + (1 : Int))) (ByteArray.size (Go.Sx.M.tx l))))) (128 : Int))], Go.Sx.AV.int Go.IntKind.i64 (0 : Int)] = r)))) ∧ (((↑(UInt8.toNat (List.getD l p (0 : UInt8))) : Int) == (47 : Int)) = Bool.false → Go.Sx.inRange Go.IntKind.i64 ((↑p : Int) + (1 : Int)) ∧ ∃ (p' : Nat), Go.Sx.St.mk [Go.Sx.AV.int Go.IntKind.i64 w, Go.Sx.AV.val (Go.Value.string (Go.Sx.M.tx l)), Go.Sx.AV.any, Go.Sx.AV.any, Go.Sx.AV.ptr (0 : Nat) (0 : Nat) (0 : Nat) Bool.true, Go.Sx.AV.lit (Go.Value.int Go.IntKind.i64 (0 : Int)), Go.Sx.AV.val (Go.Value.string (Go.Sx.M.tx l)), Go.Sx.AV.val (Go.Value.string (Go.Sx.bstr [])), Go.Sx.AV.int Go.IntKind.i64 ((↑p : Int) + (1 : Int)), Go.Sx.AV.any, Go.Sx.AV.any, Go.Sx.AV.any, Go.Sx.AV.any, Go.Sx.AV.any, Go.Sx.AV.any, Go.Sx.AV.any, Go.Sx.AV.any, Go.Sx.AV.any, Go.Sx.AV.any, Go.Sx.AV.any, Go.Sx.AV.any, Go.Sx.AV.any, Go.Sx.AV.any, Go.Sx.AV.any, Go.Sx.AV.any, Go.Sx.AV.any, Go.Sx.AV.any, Go.Sx.AV.any, Go.Sx.AV.any, Go.Sx.AV.any, Go.Sx.AV.any, Go.Sx.AV.any, Go.Sx.AV.any, Go.Sx.AV.any, Go.Sx.AV.any, Go.Sx.AV.any, Go.Sx.AV.any, Go.Sx.AV.any, Go.Sx.AV.any, Go.Sx.AV.any, Go.Sx.AV.any, Go.Sx.AV.any, Go.Sx.AV.any, Go.Sx.AV.any, Go.Sx.AV.any, Go.Sx.AV.any, Go.Sx.AV.any, Go.Sx.AV.any, Go.Sx.AV.any, Go.Sx.AV.any, Go.Sx.AV.any, Go.Sx.AV.any, Go.Sx.AV.any, Go.Sx.AV.any, Go.Sx.AV.any, Go.Sx.AV.any, Go.Sx.AV.any, Go.Sx.AV.any, Go.Sx.AV.any] [Option.some (Go.Sx.Blk.mk Bool.true (32 : Go.TypeId) (3 : Nat) Bool.true [Go.Sx.AV.agg [Go.Sx.AV.lit (Go.Value.int Go.IntKind.u64 (0 : Int)), Go.Sx.AV.lit (Go.Value.int Go.IntKind.u64 (0 : Int)), Go.Sx.AV.lit (Go.Value.int Go.IntKind.i64 (0 : Int))]])] = Go.Proofs.YtkdcajibehpeaaaDoor.L1.rpSt w l p' ∧ Go.Proofs.YtkdcajibehpeaaaDoor.L1.rpI l p' ∧ (1000001 : Nat) - p' < (1000001 : Nat) - p)) ∧ (Decidable.decide ((↑p : Int) < (↑(ByteArray.size (Go.Sx.M.tx l)) : Int)) = Bool.false → ByteArray.size (Go.Sx.M.tx l) ≤ (1000000 : Nat) ∧ ((Go.Sx.M.paE w (Array.toList (ByteArray.data (Go.Sx.M.tx l))) != (0 : Int)) = Bool.true → Go.Sx.AV.tuple [Go.Sx.AV.agg [Go.Sx.AV.w64 (BitVec.ofInt (64 : Nat) (0 : Int)), Go.Sx.AV.w64 (BitVec.ofInt (64 : Nat) (0 : Int)), Go.Sx.AV.int Go.IntKind.i64 (0 : Int)], Go.Sx.AV.int Go.IntKind.i64 (Go.Sx.M.paE w (Array.toList (ByteArray.data (Go.Sx.M.tx l))))] = r) ∧ ((Go.Sx.M.paE w (Array.toList (ByteArray.data (Go.Sx.M.tx l))) != (0 : Int)) = Bool.false → ByteArray.size (Go.Sx.bstr []) ≤ (1000000 : Nat) ∧ ((!Go.Sx.M.numOK (Array.toList (ByteArray.data (Go.Sx.M.tx []))) (128 : Int)) = Bool.true → Go.Sx.AV.tuple [Go.Sx.AV.agg [Go.Sx.AV.w64 (BitVec.ofInt (64 : Nat) (0 : Int)), Go.Sx.AV.w64 (BitVec.ofInt (64 : Nat) (0 : Int)), Go.Sx.AV.int Go.IntKind.i64 (0 : Int)], Go.Sx.AV.int Go.IntKind.i64 (4 : Int)] = r) ∧ ((!Go.Sx.M.numOK (Array.toList (ByteArray.data (Go.Sx.M.tx []))) (128 : Int)) = Bool.false → ((!Go.Proofs.YtkdcajibehpeaaaDoor.L1.rightB w (Go.Sx.M.paX w (Array.toList (ByteArray.data (Go.Sx.M.tx l)))) (Go.Sx.M.paY w (Array.toList (ByteArray.data (Go.Sx.M.tx l)))) (Go.Sx.M.numV (Array.toList (ByteArray.data (Go.Sx.M.tx []))) (128 : Int))) = Bool.true → Go.Sx.AV.tuple [Go.Sx.AV.agg [Go.Sx.AV.w64 (BitVec.ofInt (64 : Nat) (0 : Int)), Go.Sx.AV.w64 (BitVec.ofInt (64 : Nat) (0 : Int)), Go.Sx.AV.int Go.IntKind.i64 (0 : Int)], Go.Sx.AV.int Go.IntKind.i64 (1 : Int)] = r) ∧ ((!Go.Proofs.YtkdcajibehpeaaaDoor.L1.rightB w (Go.Sx.M.paX w (Array.toList (ByteArray.data (Go.Sx.M.tx l)))) (Go.Sx.M.paY w (Array.toList (ByteArray.data (Go.Sx.M.tx l)))) (Go.Sx.M.numV (Array.toList (ByteArray.data (Go.Sx.M.tx []))) (128 : Int))) = Bool.false → Go.Sx.AV.tuple [Go.Sx.AV.agg [Go.Sx.AV.w64 (Go.Sx.M.paX w (Array.toList (ByteArray.data (Go.Sx.M.tx l)))), Go.Sx.AV.w64 (Go.Sx.M.paY w (Array.toList (ByteArray.data (Go.Sx.M.tx l)))), Go.Sx.AV.int Go.IntKind.i64 (Go.Sx.M.numV [] (128 : Int))], Go.Sx.AV.int Go.IntKind.i64 (0 : Int)] = r))))) := by kernel_rfl

theorem wr_run (w : Int) (l : List UInt8) : run wrCs Tryd.prog 5 [.int .i64 w, .val (.string (tx l))] [] wrH isTrue =
    ((Decidable.decide ((↑(ByteArray.size (Go.Sx.M.tx l)) : Int) > (200 : Int)) = Bool.true → Bool.true = Bool.true) ∧ (Decidable.decide ((↑(ByteArray.size (Go.Sx.M.tx l)) : Int) > (200 : Int)) = Bool.false → ByteArray.size (Go.Sx.M.tx l) ≤ (1000000 : Nat) ∧ ByteArray.size (Go.Sx.M.tx l) ≤ (1000000 : Nat) ∧ ByteArray.size (Go.Sx.M.tx l) ≤ (1000000 : Nat) ∧ ByteArray.size (Go.Sx.M.tx l) ≤ (1000000 : Nat) ∧ (Go.Sx.M.paX w (Array.toList (ByteArray.data (Go.Sx.M.tx l))) == Go.Sx.M.paX w (Array.toList (ByteArray.data (Go.Sx.M.tx l))) && Go.Sx.M.paY w (Array.toList (ByteArray.data (Go.Sx.M.tx l))) == Go.Sx.M.paY w (Array.toList (ByteArray.data (Go.Sx.M.tx l)))) = Bool.true ∧ (Go.Sx.M.paE w (Array.toList (ByteArray.data (Go.Sx.M.tx l))) == Go.Sx.M.paE w (Array.toList (ByteArray.data (Go.Sx.M.tx l)))) = Bool.true ∧ (Go.Proofs.YtkdcajibehpeaaaDoor.L1.ppX w (Array.toList (ByteArray.data (Go.Sx.M.tx l))) == Go.Proofs.YtkdcajibehpeaaaDoor.L1.ppX w (Array.toList (ByteArray.data (Go.Sx.M.tx l))) && Go.Proofs.YtkdcajibehpeaaaDoor.L1.ppY w (Array.toList (ByteArray.data (Go.Sx.M.tx l))) == Go.Proofs.YtkdcajibehpeaaaDoor.L1.ppY w (Array.toList (ByteArray.data (Go.Sx.M.tx l))) && Go.Proofs.YtkdcajibehpeaaaDoor.L1.ppN w (Array.toList (ByteArray.data (Go.Sx.M.tx l))) == Go.Proofs.YtkdcajibehpeaaaDoor.L1.ppN w (Array.toList (ByteArray.data (Go.Sx.M.tx l)))) = Bool.true ∧ (Go.Proofs.YtkdcajibehpeaaaDoor.L1.ppE w (Array.toList (ByteArray.data (Go.Sx.M.tx l))) == Go.Proofs.YtkdcajibehpeaaaDoor.L1.ppE w (Array.toList (ByteArray.data (Go.Sx.M.tx l)))) = Bool.true ∧ Bool.true = Bool.true)) := by kernel_rfl

theorem rppCs_ok : ∀ e ∈ rppCs, SpecOK Tryd.prog e.1 e.2 := by
  intro e he
  simp only [rppCs, List.mem_cons, List.not_mem_nil, or_false] at he
  rcases he with rfl | rfl | rfl
  · exact rpa_ok
  · exact rnum_ok
  · exact rright_ok

theorem rpp_tail {w : Int} {l A B : List UInt8} (hA : ppA l = A) (hB : ppB l = B) (hl : B.length ≤ 1000000) :
    ((paE w A != 0) = true → AV.tuple [AV.agg [AV.w64 (BitVec.ofInt 64 0), AV.w64 (BitVec.ofInt 64 0), AV.int .i64 0], AV.int .i64 (paE w A)] = AV.tuple [AV.agg [AV.w64 (ppX w l), AV.w64 (ppY w l), AV.int .i64 (ppN w l)], AV.int .i64 (ppE w l)]) ∧
    ((paE w A != 0) = false → B.length ≤ 1000000 ∧ ((!numOK B 128) = true → AV.tuple [AV.agg [AV.w64 (BitVec.ofInt 64 0), AV.w64 (BitVec.ofInt 64 0), AV.int .i64 0], AV.int .i64 4] = AV.tuple [AV.agg [AV.w64 (ppX w l), AV.w64 (ppY w l), AV.int .i64 (ppN w l)], AV.int .i64 (ppE w l)]) ∧
      ((!numOK B 128) = false → ((!rightB w (paX w A) (paY w A) (numV B 128)) = true → AV.tuple [AV.agg [AV.w64 (BitVec.ofInt 64 0), AV.w64 (BitVec.ofInt 64 0), AV.int .i64 0], AV.int .i64 1] = AV.tuple [AV.agg [AV.w64 (ppX w l), AV.w64 (ppY w l), AV.int .i64 (ppN w l)], AV.int .i64 (ppE w l)]) ∧
        ((!rightB w (paX w A) (paY w A) (numV B 128)) = false → AV.tuple [AV.agg [AV.w64 (paX w A), AV.w64 (paY w A), AV.int .i64 (numV B 128)], AV.int .i64 0] = AV.tuple [AV.agg [AV.w64 (ppX w l), AV.w64 (ppY w l), AV.int .i64 (ppN w l)], AV.int .i64 (ppE w l)]))) := by
  have zero : ∀ e : Int, e ≠ 0 → ppE w l = e → AV.tuple [AV.agg [AV.w64 (BitVec.ofInt 64 0), AV.w64 (BitVec.ofInt 64 0), AV.int .i64 0], AV.int .i64 e] = AV.tuple [AV.agg [AV.w64 (ppX w l), AV.w64 (ppY w l), AV.int .i64 (ppN w l)], AV.int .i64 (ppE w l)] := by
    intro e he h
    unfold ppX ppY ppN
    rw [h, if_neg he, if_neg he, if_neg he]; rfl
  refine ⟨fun h1 => ?_, fun h1 => ⟨hl, fun h2 => ?_, fun h2 => ⟨fun h3 => ?_, fun h3 => ?_⟩⟩⟩
  · have h1 : paE w A ≠ 0 := by simpa using h1
    refine zero _ h1 ?_
    unfold ppE; rw [hA, if_pos h1]
  · have h1 : ¬ paE w A ≠ 0 := by simpa using h1
    have h2 : ¬ numOK B 128 = true := by simpa using h2
    refine zero _ (by omega) ?_
    unfold ppE; rw [hA, hB, if_neg h1, if_neg h2]
  · have h1 : ¬ paE w A ≠ 0 := by simpa using h1
    have h2 : numOK B 128 = true := by simpa using h2
    have h3 : ¬ rightB w (paX w A) (paY w A) (numV B 128) = true := by simpa using h3
    refine zero _ (by omega) ?_
    unfold ppE; rw [hA, hB, if_neg h1, if_pos h2, if_neg h3]
  · have h1 : ¬ paE w A ≠ 0 := by simpa using h1
    have h2 : numOK B 128 = true := by simpa using h2
    have h3 : rightB w (paX w A) (paY w A) (numV B 128) = true := by simpa using h3
    have h : ppE w l = 0 := by unfold ppE; rw [hA, hB, if_neg h1, if_pos h2, if_pos h3]
    unfold ppX ppY ppN
    rw [if_pos h, if_pos h, if_pos h, h, hA, hB]

theorem rpp_walk (w : Int) (l : List UInt8) (hs : l.length ≤ 1000000) : ∃ hs, run rppCs Tryd.prog 20 [.int .i64 w, .val (.string (tx l))] [] hs (yields (.v (.tuple [.agg [.w64 (ppX w l), .w64 (ppY w l), .int .i64 (ppN w l)], .int .i64 (ppE w l)]))) := by
  refine ⟨rpH w l, ?_⟩
  rw [rpp_run]
  refine ⟨⟨rfl, Nat.zero_le _, by simp⟩, ?_⟩
  rintro k ⟨hk, hno⟩
  have e1 : Int.toNat ((k : Int) + 1) = k + 1 := by omega
  simp only [tx_size, tx_get, tx_extract, tx_data, bstr_nil, e1, Int.toNat_natCast, List.drop_zero, List.take_length]
  refine ⟨fun hlt => ?_, fun hge => ?_⟩
  · have hk' : k < l.length := by simpa using hlt
    have g := map_get hk'
    rw [Int.toNat_natCast] at g
    refine ⟨⟨by omega, by omega⟩, g, fun he => ?_, fun he => ?_⟩
    · have he : l.getD k 0 = 47 := by
        have h1 : (((l.getD k 0).toNat : Nat) : Int) = 47 := by simpa using he
        exact UInt8.toNat_inj.1 (by show (l.getD k 0).toNat = 47; omega)
      have hl : l.take k ++ [47] ++ l.drop (k + 1) = l := by
        rw [← he, ← take_next hk', List.take_append_drop]
      have hc := cutL_at (c := 47) (m := l.drop (k + 1)) hno
      rw [hl] at hc
      have hA : ppA l = l.take k := by unfold ppA; rw [hc]
      have hB : ppB l = l.drop (k + 1) := by unfold ppB; rw [hc]
      exact ⟨⟨by omega, by omega⟩, inR (by omega) (by omega), ⟨by omega, by omega⟩, by rw [List.length_take]; omega, rpp_tail hA hB (by rw [List.length_drop]; omega)⟩
    · have he : l.getD k 0 ≠ 47 := by
        intro h
        rw [h] at he
        exact absurd he (by decide)
      refine ⟨inR (by omega) (by omega), k + 1, rfl, ⟨by omega, ?_⟩, by omega⟩
      rw [take_next hk']
      intro hm
      rcases List.mem_append.1 hm with hm | hm
      · exact hno hm
      · exact he (List.mem_singleton.1 hm).symm
  · have hk' : k = l.length := by
      have : ¬ k < l.length := by simpa using hge
      omega
    rw [hk', List.take_length] at hno
    have hc := cutL_no hno
    have hA : ppA l = l := by unfold ppA; rw [hc]
    have hB : ppB l = [] := by unfold ppB; rw [hc]
    exact ⟨hs, rpp_tail hA hB (show ([] : List UInt8).length ≤ 1000000 by simp)⟩

theorem rpp_ok : SpecOK Tryd.prog 20 (genSpec [none, none] ppF) := by
  refine genSpec_ok (run_ok (l := rppCs) rppCs_ok mixed noNG) fun args R hF => ?_
  unfold ppF at hF
  split at hF
  · rename_i w s
    obtain ⟨hs, hR⟩ := hF
    obtain ⟨l, rfl⟩ : ∃ l, s = tx l := ⟨_, (tx_of s).symm⟩
    rw [tx_data] at hR
    rw [tx_size] at hs
    exact ⟨_, hR, rfl, rpp_walk w l hs⟩
  · exact hF.elim

theorem wrCs_ok : ∀ e ∈ wrCs, SpecOK Tryd.prog e.1 e.2 := by
  intro e he
  simp only [wrCs, List.mem_cons, List.not_mem_nil, or_false] at he
  rcases he with rfl | rfl | rfl | rfl | rfl
  · exact aw_ok
  · exact pa_ok
  · exact rpa_ok
  · exact pp_ok
  · exact rpp_ok

theorem wr_walk_l (w : Int) (l : List UInt8) : ∃ hs, run wrCs Tryd.prog 5 [.int .i64 w, .val (.string (tx l))] [] hs isTrue := by
  refine ⟨wrH, ?_⟩
  rw [wr_run]
  rw [tx_data, tx_size]
  refine ⟨fun _ => rfl, fun h => ?_⟩
  have hl : l.length ≤ 1000000 := by simp at h; omega
  exact ⟨hl, hl, hl, hl, by simp, by simp, by simp, by simp, rfl⟩

theorem wr_any : ∃ C : Sx.Call, COK Tryd.prog false C ∧ ∀ (w : Int) (s : ByteArray), ∃ hs, C 5 [.int .i64 w, .val (.string s)] [] hs isTrue := by
  refine ⟨run wrCs Tryd.prog, run_ok (l := wrCs) wrCs_ok mixed noNG, fun w s => ?_⟩
  exact forall_tx (p := fun s => ∃ hs, run wrCs Tryd.prog 5 [.int .i64 w, .val (.string s)] [] hs isTrue) (wr_walk_l w) s

end Go.Proofs.YtkdcajibehpeaaaDoor.L1
