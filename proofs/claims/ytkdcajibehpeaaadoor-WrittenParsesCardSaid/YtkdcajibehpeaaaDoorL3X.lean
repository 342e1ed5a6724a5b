/-
  Layer 3: contract of the document's own ParseAddr.
-/
import Derived.Test.YtkdcajibehpeaaaDoorL3J
namespace Go.Proofs.YtkdcajibehpeaaaDoor.L1
open Go.Sx Go.Sx.M Go.RowKit

noncomputable def rpaCs : List (FuncId × Sx.Spec) := [(35, genSpec [none, none] splF), (36, genSpec [none] fourF), (22, genSpec [none, none] rnumF),
  (37, genSpec [pBool] wordsF)]

/-- The numbers of the parts. -/
def vs4 (l : List UInt8) : List Nat := (spl 46 l).map fun t => (r4V t).toNat
def vs6 (l : List UInt8) : List Nat := (spl 58 l).map fun t => (r6V t).toNat
def pG (c : UInt8) (l : List UInt8) (k : Nat) : List UInt8 := (spl c l).getD k []
def pN (c : UInt8) (l : List UInt8) : Nat := (spl c l).length
/-- What is left of the number of part k, where j of its bits are. -/
def pV (bits : Nat) (vs : List Nat) (k j : Nat) : Nat := vs.getD k 0 / 2 ^ (bits - j)

noncomputable def pcO (w m : Int) (bits : Nat) (c : UInt8) (l : List UInt8) (vs : List Nat) (F : List Bool → List AV) (k : Nat) : St :=
  ⟨[.int .i64 w, .any, .any, .any, .ptr 0 0 0 true, .lit (.int .i64 0), .any, .lit (.int .i64 m), .vsl 1 0 (pN c l), .vsl 2 0 128, .int .i64 k, .any, .any, .any, .any, .any, .any, .any, .any, .any, .any, .any, .any, .any, .any, .any, .any, .any, .any, .any, .any, .any, .any, .any, .any, .any, .any, .any, .any, .any, .any, .any, .any, .any, .any, .any, .any, .any, .any, .any, .any, .any, .any, .any, .any, .any, .any, .any, .any, .any, .any, .any, .any, .any, .any, .any, .any, .any, .any, .any, .any, .any, .any, .any, .any, .any, .any, .any, .any, .any, .any, .any],
   [some ⟨true, 23, 2, true, [.agg [.lit (.int .u64 0), .lit (.int .u64 0)]]⟩, some ⟨true, 9, 1, true, rowS (spl c l)⟩, some ⟨true, 4, 1, true, F (pL bits vs k bits)⟩]⟩
noncomputable def pcN (w m : Int) (bits : Nat) (c : UInt8) (l : List UInt8) (vs : List Nat) (F : List Bool → List AV) (k j : Nat) : St :=
  ⟨[.int .i64 w, .any, .any, .any, .ptr 0 0 0 true, .lit (.int .i64 0), .any, .lit (.int .i64 m), .vsl 1 0 (pN c l), .vsl 2 0 128, .int .i64 k, .int .i64 (pV bits vs k j : Nat), .any, .any, .int .i64 ((j : Int) - 1), .any, .any, .any, .any, .any, .any, .any, .any, .any, .any, .any, .any, .any, .any, .any, .any, .any, .any, .any, .any, .any, .any, .any, .any, .any, .any, .any, .any, .any, .any, .any, .any, .any, .any, .any, .any, .any, .any, .any, .any, .any, .any, .any, .any, .any, .any, .any, .any, .any, .any, .any, .any, .any, .any, .any, .any, .any, .any, .any, .any, .any, .any, .any, .any, .any, .any, .any],
   [some ⟨true, 23, 2, true, [.agg [.lit (.int .u64 0), .lit (.int .u64 0)]]⟩, some ⟨true, 9, 1, true, rowS (spl c l)⟩, some ⟨true, 4, 1, true, F (pL bits vs k j)⟩]⟩
def pcM0 : Modes := ⟨[1, 0, 0, 0, 1, 1, 0, 1, 1, 1, 2, 0, 0, 0, 0, 0, 0, 0, 0, 0, 0, 0, 0, 0, 0, 0, 0, 0, 0, 0, 0, 0, 0, 0, 0, 0, 0, 0, 0, 0, 0, 0, 0, 0, 0, 0, 0, 0, 0, 0, 0, 0, 0, 0, 0, 0, 0, 0, 0, 0, 0, 0, 0, 0, 0, 0, 0, 0, 0, 0, 0, 0, 0, 0, 0, 0, 0, 0, 0, 0, 0, 0], [0, 1, 2], [1, 1, 2], [9], []⟩
def pcM : Modes := ⟨[1, 0, 0, 0, 1, 1, 0, 1, 1, 1, 1, 0, 0, 0, 0, 0, 0, 0, 0, 0, 0, 0, 0, 0, 0, 0, 0, 0, 0, 0, 0, 0, 0, 0, 0, 0, 0, 0, 0, 0, 0, 0, 0, 0, 0, 0, 0, 0, 0, 0, 0, 0, 0, 0, 0, 0, 0, 0, 0, 0, 0, 0, 0, 0, 0, 0, 0, 0, 0, 0, 0, 0, 0, 0, 0, 0, 0, 0, 0, 0, 0, 0], [0, 1, 2], [1, 1, 1], [], []⟩
def pcM' : Modes := ⟨[0, 0, 0, 0, 1, 1, 0, 0, 0, 1, 0, 0, 0, 0, 0, 0, 0, 0, 0, 0, 0, 0, 0, 0, 0, 0, 0, 0, 0, 0, 0, 0, 0, 0, 0, 0, 0, 0, 0, 0, 0, 0, 0, 0, 0, 0, 0, 0, 0, 0, 0, 0, 0, 0, 0, 0, 0, 0, 0, 0, 0, 0, 0, 0, 0, 0, 0, 0, 0, 0, 0, 0, 0, 0, 0, 0, 0, 0, 0, 0, 0, 0], [0, 1, 2], [1, 0, 1], [], []⟩
def pcNM0 : Modes := ⟨[1, 0, 0, 0, 1, 1, 0, 1, 1, 1, 1, 2, 0, 0, 2, 0, 0, 0, 0, 0, 0, 0, 0, 0, 0, 0, 0, 0, 0, 0, 0, 0, 0, 0, 0, 0, 0, 0, 0, 0, 0, 0, 0, 0, 0, 0, 0, 0, 0, 0, 0, 0, 0, 0, 0, 0, 0, 0, 0, 0, 0, 0, 0, 0, 0, 0, 0, 0, 0, 0, 0, 0, 0, 0, 0, 0, 0, 0, 0, 0, 0, 0], [0, 1, 2], [1, 1, 1], [], []⟩
def pcNM : Modes := ⟨[1, 0, 0, 0, 1, 1, 0, 1, 1, 1, 1, 1, 0, 0, 1, 0, 0, 0, 0, 0, 0, 0, 0, 0, 0, 0, 0, 0, 0, 0, 0, 0, 0, 0, 0, 0, 0, 0, 0, 0, 0, 0, 0, 0, 0, 0, 0, 0, 0, 0, 0, 0, 0, 0, 0, 0, 0, 0, 0, 0, 0, 0, 0, 0, 0, 0, 0, 0, 0, 0, 0, 0, 0, 0, 0, 0, 0, 0, 0, 0, 0, 0], [0, 1, 2], [1, 1, 1], [], []⟩
def pcI (n : Nat) (k : Nat) : Prop := k ≤ n
def pcI4 (l : List UInt8) (k : Nat) : Prop := k ≤ (spl 46 l).length ∧ ∀ t ∈ (spl 46 l).take k, r4B t = true
def pcI6 (l : List UInt8) (k : Nat) : Prop := k ≤ (spl 58 l).length ∧ ∀ t ∈ (spl 58 l).take k, r6B t = true

noncomputable def pcHi (w m : Int) (bits : Nat) (c : UInt8) (l : List UInt8) (vs : List Nat) (F : List Bool → List AV) (k : Nat) : List Hint :=
  [.linv _ bits (pcN w m bits c l vs F k) (pcI bits) (fun j => j) pcNM0 pcNM pcM (fun _ => [.nw]) fun j => [.fork [.nw, .nw, .dy, .rows (F (pL bits vs k (j - 1))), .nw, .nw] []]]

def pcC (c : UInt8) (l : List UInt8) (k : Nat) : Hint := .cell (.val (.string (tx (pG c l k))))

noncomputable def pcH4 (l : List UInt8) (F : List Bool → List AV) : List Hint :=
  [.br false, .br false, .nw, .fork [] [.linv _ 0 (pcO 32 8 8 46 l (vs4 l) F) (pcI4 l) (fun k => pN 46 l - k) pcM0 pcM pcM' (fun _ => []) fun k =>
    [.fork [.dy, pcC 46 l k, .br true, .dy, pcC 46 l k, .fork [] (.br false :: pcHi 32 8 8 46 l (vs4 l) F k)] []]]]

noncomputable def pcH6 (l : List UInt8) (F : List Bool → List AV) : List Hint :=
  [.br true, .br false, .br true, .nw, .fork [] [.linv _ 0 (pcO 128 16 16 58 l (vs6 l) F) (pcI6 l) (fun k => pN 58 l - k) pcM0 pcM pcM' (fun _ => []) fun k =>
    [.fork [.dy, pcC 58 l k, .br false, .fork [] (pcHi 128 16 16 58 l (vs6 l) F k)] []]]]

theorem pcb_run (w : Int) (l : List UInt8) (r : AV) : run rpaCs Tryd.prog 19 [.int .i64 w, .val (.string (tx l))] [] [.br true, .br true] (yields (.v r)) =
    ((w != (32 : Int)) = Bool.true ∧ (w != (128 : Int)) = Bool.true ∧ Go.Sx.AV.tuple [Go.Sx.AV.agg [Go.Sx.AV.w64 (BitVec.ofInt (64 : Nat) (0 : Int)), Go.Sx.AV.w64 (BitVec.ofInt (64 : Nat) (0 : Int))], Go.Sx.AV.int Go.IntKind.i64 (1 : Int)] = r) := by kernel_rfl

theorem pc4_run (l : List UInt8) (F : List Bool → List AV) (r : AV) : run rpaCs Tryd.prog 19 [.int .i64 32, .val (.string (tx l))] [] (pcH4 l F) (yields (.v r)) =
    (((32 : Int) != (32 : Int)) = Bool.false ∧ ((32 : Int) == (128 : Int)) = Bool.false ∧ ByteArray.size (Go.Sx.M.tx l) ≤ (1000000 : Nat) ∧ (0 : Int) ≤ (46 : Int) ∧ (46 : Int) < (256 : Int) ∧ Go.Sx.inRange Go.IntKind.i64 (Int.tdiv (32 : Int) (8 : Int)) ∧ (((↑(List.length (Go.Proofs.YtkdcajibehpeaaaDoor.L1.rowS (Go.Sx.M.spl (Nat.toUInt8 (Int.toNat (46 : Int))) (Array.toList (ByteArray.data (Go.Sx.M.tx l)))))) : Int) != Int.tdiv (32 : Int) (8 : Int)) = Bool.true → Go.Sx.AV.tuple [Go.Sx.AV.agg [Go.Sx.AV.w64 (BitVec.ofInt (64 : Nat) (0 : Int)), Go.Sx.AV.w64 (BitVec.ofInt (64 : Nat) (0 : Int))], Go.Sx.AV.int Go.IntKind.i64 (4 : Int)] = r) ∧ (((↑(List.length (Go.Proofs.YtkdcajibehpeaaaDoor.L1.rowS (Go.Sx.M.spl (Nat.toUInt8 (Int.toNat (46 : Int))) (Array.toList (ByteArray.data (Go.Sx.M.tx l)))))) : Int) != Int.tdiv (32 : Int) (8 : Int)) = Bool.false → (Go.Sx.St.mk [Go.Sx.AV.int Go.IntKind.i64 (32 : Int), Go.Sx.AV.any, Go.Sx.AV.any, Go.Sx.AV.any, Go.Sx.AV.ptr (0 : Nat) (0 : Nat) (0 : Nat) Bool.true, Go.Sx.AV.lit (Go.Value.int Go.IntKind.i64 (0 : Int)), Go.Sx.AV.any, Go.Sx.AV.lit (Go.Value.int Go.IntKind.i64 (8 : Int)), Go.Sx.AV.vsl ((0 : Nat) + (1 : Nat)) (0 : Nat) (List.length (Go.Proofs.YtkdcajibehpeaaaDoor.L1.rowS (Go.Sx.M.spl (Nat.toUInt8 (Int.toNat (46 : Int))) (Array.toList (ByteArray.data (Go.Sx.M.tx l)))))), Go.Sx.AV.vsl ((0 : Nat) + (1 : Nat) + (1 : Nat)) (0 : Nat) (Int.toNat (128 : Int)), Go.Sx.AV.int Go.IntKind.i64 (0 : Int), Go.Sx.AV.any, Go.Sx.AV.any, Go.Sx.AV.any, Go.Sx.AV.any, Go.Sx.AV.any, Go.Sx.AV.any, Go.Sx.AV.any, Go.Sx.AV.any, Go.Sx.AV.any, Go.Sx.AV.any, Go.Sx.AV.any, Go.Sx.AV.any, Go.Sx.AV.any, Go.Sx.AV.any, Go.Sx.AV.any, Go.Sx.AV.any, Go.Sx.AV.any, Go.Sx.AV.any, Go.Sx.AV.any, Go.Sx.AV.any, Go.Sx.AV.any, Go.Sx.AV.any, Go.Sx.AV.any, Go.Sx.AV.any, Go.Sx.AV.any, Go.Sx.AV.any, Go.Sx.AV.any, Go.Sx.AV.any, Go.Sx.AV.any, Go.Sx.AV.any, Go.Sx.AV.any, Go.Sx.AV.any, Go.Sx.AV.any, Go.Sx.AV.any, Go.Sx.AV.any, Go.Sx.AV.any, Go.Sx.AV.any, Go.Sx.AV.any, Go.Sx.AV.any, Go.Sx.AV.any, Go.Sx.AV.any, Go.Sx.AV.any, Go.Sx.AV.any, Go.Sx.AV.any, Go.Sx.AV.any, Go.Sx.AV.any, Go.Sx.AV.any, Go.Sx.AV.any, Go.Sx.AV.any, Go.Sx.AV.any, Go.Sx.AV.any, Go.Sx.AV.any, Go.Sx.AV.any, Go.Sx.AV.any, Go.Sx.AV.any, Go.Sx.AV.any, Go.Sx.AV.any, Go.Sx.AV.any, Go.Sx.AV.any, Go.Sx.AV.any, Go.Sx.AV.any, Go.Sx.AV.any, Go.Sx.AV.any, Go.Sx.AV.any, Go.Sx.AV.any, Go.Sx.AV.any, Go.Sx.AV.any, Go.Sx.AV.any, Go.Sx.AV.any, Go.Sx.AV.any, Go.Sx.AV.any] [Option.some (Go.Sx.Blk.mk Bool.true (23 : Nat) (2 : Nat) Bool.true [Go.Sx.AV.agg [Go.Sx.AV.lit (Go.Value.int Go.IntKind.u64 (0 : Int)), Go.Sx.AV.lit (Go.Value.int Go.IntKind.u64 (0 : Int))]]), Option.some (Go.Sx.Blk.mk Bool.true (9 : Go.TypeId) (1 : Nat) Bool.true (Go.Proofs.YtkdcajibehpeaaaDoor.L1.rowS (Go.Sx.M.spl (Nat.toUInt8 (Int.toNat (46 : Int))) (Array.toList (ByteArray.data (Go.Sx.M.tx l)))))), Option.some (Go.Sx.Blk.mk Bool.true (nat_lit 4) (1 : Nat) Bool.true [Go.Sx.AV.bool Bool.false, Go.Sx.AV.bool Bool.false, Go.Sx.AV.bool Bool.false, Go.Sx.AV.bool Bool.false, Go.Sx.AV.bool Bool.false, Go.Sx.AV.bool Bool.false, Go.Sx.AV.bool Bool.false, Go.Sx.AV.bool Bool.false, Go.Sx.AV.bool Bool.false, Go.Sx.AV.bool Bool.false, Go.Sx.AV.bool Bool.false, Go.Sx.AV.bool Bool.false, Go.Sx.AV.bool Bool.false, Go.Sx.AV.bool Bool.false, Go.Sx.AV.bool Bool.false, Go.Sx.AV.bool Bool.false, Go.Sx.AV.bool Bool.false, Go.Sx.AV.bool Bool.false, Go.Sx.AV.bool Bool.false, Go.Sx.AV.bool Bool.false, Go.Sx.AV.bool Bool.false, Go.Sx.AV.bool Bool.false, Go.Sx.AV.bool Bool.false, Go.Sx.AV.bool Bool.false, Go.Sx.AV.bool Bool.false, Go.Sx.AV.bool Bool.false, Go.Sx.AV.bool Bool.false, Go.Sx.AV.bool Bool.false, Go.Sx.AV.bool Bool.false, Go.Sx.AV.bool Bool.false, Go.Sx.AV.bool Bool.false, Go.Sx.AV.bool Bool.false, Go.Sx.AV.bool Bool.false, Go.Sx.AV.bool Bool.false, Go.Sx.AV.bool Bool.false, Go.Sx.AV.bool Bool.false, Go.Sx.AV.bool Bool.false, Go.Sx.AV.bool Bool.false, Go.Sx.AV.bool Bool.false, Go.Sx.AV.bool Bool.false, Go.Sx.AV.bool Bool.false, Go.Sx.AV.bool Bool.false, Go.Sx.AV.bool Bool.false, Go.Sx.AV.bool Bool.false, Go.Sx.AV.bool Bool.false, Go.Sx.AV.bool Bool.false, Go.Sx.AV.bool Bool.false, Go.Sx.AV.bool Bool.false, Go.Sx.AV.bool Bool.false, Go.Sx.AV.bool Bool.false, Go.Sx.AV.bool Bool.false, Go.Sx.AV.bool Bool.false, Go.Sx.AV.bool Bool.false, Go.Sx.AV.bool Bool.false, Go.Sx.AV.bool Bool.false, Go.Sx.AV.bool Bool.false, Go.Sx.AV.bool Bool.false, Go.Sx.AV.bool Bool.false, Go.Sx.AV.bool Bool.false, Go.Sx.AV.bool Bool.false, Go.Sx.AV.bool Bool.false, Go.Sx.AV.bool Bool.false, Go.Sx.AV.bool Bool.false, Go.Sx.AV.bool Bool.false, Go.Sx.AV.bool Bool.false, Go.Sx.AV.bool Bool.false, Go.Sx.AV.bool Bool.false, Go.Sx.AV.bool Bool.false, Go.Sx.AV.bool Bool.false, Go.Sx.AV.bool Bool.false, Go.Sx.AV.bool Bool.false, Go.Sx.AV.bool Bool.false, Go.Sx.AV.bool Bool.false, Go.Sx.AV.bool Bool.false, Go.Sx.AV.bool Bool.false, Go.Sx.AV.bool Bool.false, Go.Sx.AV.bool Bool.false, Go.Sx.AV.bool Bool.false, Go.Sx.AV.bool Bool.false, Go.Sx.AV.bool Bool.false, Go.Sx.AV.bool Bool.false, Go.Sx.AV.bool Bool.false, Go.Sx.AV.bool Bool.false, Go.Sx.AV.bool Bool.false, Go.Sx.AV.bool Bool.false, Go.Sx.AV.bool Bool.false, Go.Sx.AV.bool Bool.false, Go.Sx.AV.bool Bool.false, Go.Sx.AV.bool Bool.false, Go.Sx.AV.bool Bool.false, Go.Sx.AV.bool Bool.false, Go.Sx.AV.bool Bool.false, Go.Sx.AV.bool Bool.false, Go.Sx.AV.bool Bool.false, Go.Sx.AV.bool Bool.false, Go.Sx.AV.bool Bool.false, Go.Sx.AV.bool Bool.false, Go.Sx.AV.bool Bool.false, Go.Sx.AV.bool Bool.false, Go.Sx.AV.bool Bool.false, Go.Sx.AV.bool Bool.false, Go.Sx.AV.bool Bool.false, Go.Sx.AV.bool Bool.false, Go.Sx.AV.bool Bool.false, Go.Sx.AV.bool Bool.false, Go.Sx.AV.bool Bool.false, Go.Sx.AV.bool Bool.false, Go.Sx.AV.bool Bool.false, Go.Sx.AV.bool Bool.false, Go.Sx.AV.bool Bool.false, Go.Sx.AV.bool Bool.false, Go.Sx.AV.bool Bool.false, Go.Sx.AV.bool Bool.false, Go.Sx.AV.bool Bool.false, Go.Sx.AV.bool Bool.false, Go.Sx.AV.bool Bool.false, Go.Sx.AV.bool Bool.false, Go.Sx.AV.bool Bool.false, Go.Sx.AV.bool Bool.false, Go.Sx.AV.bool Bool.false, Go.Sx.AV.bool Bool.false, Go.Sx.AV.bool Bool.false, Go.Sx.AV.bool Bool.false, Go.Sx.AV.bool Bool.false, Go.Sx.AV.bool Bool.false, Go.Sx.AV.bool Bool.false, Go.Sx.AV.bool Bool.false, Go.Sx.AV.bool Bool.false])] = Go.Proofs.YtkdcajibehpeaaaDoor.L1.pcO (32 : Int) (8 : Int) (8 : Nat) (46 : UInt8) l (Go.Proofs.YtkdcajibehpeaaaDoor.L1.vs4 l) F (0 : Nat) ∧ Go.Proofs.YtkdcajibehpeaaaDoor.L1.pcI4 l (0 : Nat)) ∧ ∀ (p : Nat), Go.Proofs.YtkdcajibehpeaaaDoor.L1.pcI4 l p → (Decidable.decide ((↑p : Int) < (↑(Go.Proofs.YtkdcajibehpeaaaDoor.L1.pN (46 : UInt8) l) : Int)) = Bool.true → ((0 : Int) ≤ (↑p : Int) ∧ (↑p : Int) < (↑(Go.Proofs.YtkdcajibehpeaaaDoor.L1.pN (46 : UInt8) l) : Int)) ∧ Go.Sx.Blk.read Go.Proofs.Tryd.prog (Go.Sx.Blk.mk Bool.true (9 : Go.TypeId) (1 : Nat) Bool.true (Go.Proofs.YtkdcajibehpeaaaDoor.L1.rowS (Go.Sx.M.spl (46 : UInt8) l))) (9 : Nat) ((0 : Nat) + Int.toNat (↑p : Int)) (0 : Nat) = Option.some (Go.Sx.AV.val (Go.Value.string (Go.Sx.M.tx (Go.Proofs.YtkdcajibehpeaaaDoor.L1.pG (46 : UInt8) l p)))) ∧ ByteArray.size (Go.Sx.M.tx (Go.Proofs.YtkdcajibehpeaaaDoor.L1.pG (46 : UInt8) l p)) ≤ (1000000 : Nat) ∧ ((32 : Int) == (32 : Int)) = Bool.true ∧ ((0 : Int) ≤ (↑p : Int) ∧ (↑p : Int) < (↑(Go.Proofs.YtkdcajibehpeaaaDoor.L1.pN (46 : UInt8) l) : Int)) ∧ Go.Sx.Blk.read Go.Proofs.Tryd.prog (Go.Sx.Blk.mk Bool.true (9 : Go.TypeId) (1 : Nat) Bool.true (Go.Proofs.YtkdcajibehpeaaaDoor.L1.rowS (Go.Sx.M.spl (46 : UInt8) l))) (9 : Nat) ((0 : Nat) + Int.toNat (↑p : Int)) (0 : Nat) = Option.some (Go.Sx.AV.val (Go.Value.string (Go.Sx.M.tx (Go.Proofs.YtkdcajibehpeaaaDoor.L1.pG (46 : UInt8) l p)))) ∧ ByteArray.size (Go.Sx.M.tx (Go.Proofs.YtkdcajibehpeaaaDoor.L1.pG (46 : UInt8) l p)) ≤ (1000000 : Nat) ∧ ((!Go.Sx.M.numOK (Array.toList (ByteArray.data (Go.Sx.M.tx (Go.Proofs.YtkdcajibehpeaaaDoor.L1.pG (46 : UInt8) l p)))) (255 : Int)) = Bool.true → Go.Sx.AV.tuple [Go.Sx.AV.agg [Go.Sx.AV.w64 (BitVec.ofInt (64 : Nat) (0 : Int)), Go.Sx.AV.w64 (BitVec.ofInt (64 : Nat) (0 : Int))], Go.Sx.AV.int Go.IntKind.i64 (4 : Int)] = r) ∧ ((!Go.Sx.M.numOK (Array.toList (ByteArray.data (Go.Sx.M.tx (Go.Proofs.YtkdcajibehpeaaaDoor.L1.pG (46 : UInt8) l p)))) (255 : Int)) = Bool.false → Decidable.decide (Go.Sx.M.numV (Array.toList (ByteArray.data (Go.Sx.M.tx (Go.Proofs.YtkdcajibehpeaaaDoor.L1.pG (46 : UInt8) l p)))) (255 : Int) < (0 : Int)) = Bool.false ∧ (Go.Sx.St.mk [Go.Sx.AV.int Go.IntKind.i64 (32 : Int), Go.Sx.AV.any, Go.Sx.AV.any, Go.Sx.AV.any, Go.Sx.AV.ptr (0 : Nat) (0 : Nat) (0 : Nat) Bool.true, Go.Sx.AV.lit (Go.Value.int Go.IntKind.i64 (0 : Int)), Go.Sx.AV.any, Go.Sx.AV.lit (Go.Value.int Go.IntKind.i64 (8 : Int)), Go.Sx.AV.vsl ((0 : Nat) + (1 : Nat)) (0 : Nat) (Go.Proofs.YtkdcajibehpeaaaDoor.L1.pN (46 : UInt8) l), Go.Sx.AV.vsl ((0 : Nat) + (1 : Nat) + (1 : Nat)) (0 : Nat) (128 : Nat), Go.Sx.AV.int Go.IntKind.i64 (↑p : Int), Go.Sx.AV.int Go.IntKind.i64 (Go.Sx.M.numV (Array.toList (ByteArray.data (Go.Sx.M.tx (Go.Proofs.YtkdcajibehpeaaaDoor.L1.pG (46 : UInt8) l p)))) (255 : Int)), Go.Sx.AV.any, Go.Sx.AV.any, Go.Sx.AV.int Go.IntKind.i64 (7 : Int), Go.Sx.AV.any, Go.Sx.AV.any, Go.Sx.AV.any, Go.Sx.AV.any, Go.Sx.AV.any, Go.Sx.AV.any, Go.Sx.AV.any, Go.Sx.AV.any, Go.Sx.AV.any, Go.Sx.AV.any, Go.Sx.AV.any, Go.Sx.AV.any, Go.Sx.AV.any, Go.Sx.AV.any, Go.Sx.AV.any, Go.Sx.AV.any, Go.Sx.AV.any, Go.Sx.AV.any, Go.Sx.AV.any, Go.Sx.AV.any, Go.Sx.AV.any, Go.Sx.AV.any, Go.Sx.AV.any, Go.Sx.AV.any, Go.Sx.AV.any, Go.Sx.AV.any, Go.Sx.AV.any, Go.Sx.AV.any, Go.Sx.AV.any, Go.Sx.AV.any, Go.Sx.AV.any, Go.Sx.AV.any, Go.Sx.AV.any, Go.Sx.AV.any, Go.Sx.AV.any, Go.Sx.AV.any, Go.Sx.AV.any, Go.Sx.AV.any, Go.Sx.AV.any, Go.Sx.AV.any, Go.Sx.AV.any, Go.Sx.AV.any, Go.Sx.AV.any, Go.Sx.AV.any, Go.Sx.AV.any, Go.Sx.AV.any, Go.Sx.AV.any, Go.Sx.AV.any, Go.Sx.AV.any, Go.Sx.AV.any, Go.Sx.AV.any, Go.Sx.AV.any, Go.Sx.AV.any, Go.Sx.AV.any, Go.Sx.AV.any, Go.Sx.AV.any, Go.Sx.AV.any, Go.Sx.AV.any, Go.Sx.AV.any, Go.Sx.AV.any, Go.Sx.AV.any, Go.Sx.AV.any, Go.Sx.AV.any, Go.Sx.AV.any, Go.Sx.AV.any, Go.Sx.AV.any, Go.Sx.AV.any] [Option.some (Go.Sx.Blk.mk Bool.true (23 : Go.TypeId) (2 : Nat) Bool.true [Go.Sx.AV.agg [Go.Sx.AV.lit (Go.Value.int Go.IntKind.u64 (0 : Int)), Go.Sx.AV.lit (Go.Value.int Go.IntKind.u64 (0 : Int))]]), Option.some (Go.Sx.Blk.mk Bool.true (9 : Go.TypeId) (1 : Nat) Bool.true (Go.Proofs.YtkdcajibehpeaaaDoor.L1.rowS (Go.Sx.M.spl (46 : UInt8) l))), Option.some (Go.Sx.Blk.mk Bool.true (4 : Go.TypeId) (1 : Nat) Bool.true (F (Go.Sx.M.pL (8 : Nat) (Go.Proofs.YtkdcajibehpeaaaDoor.L1.vs4 l) p (8 : Nat))))] = Go.Proofs.YtkdcajibehpeaaaDoor.L1.pcN (32 : Int) (8 : Int) (8 : Nat) (46 : UInt8) l (Go.Proofs.YtkdcajibehpeaaaDoor.L1.vs4 l) F p (8 : Nat) ∧ Go.Proofs.YtkdcajibehpeaaaDoor.L1.pcI (8 : Nat) (8 : Nat)) ∧ ∀ (p_1 : Nat), Go.Proofs.YtkdcajibehpeaaaDoor.L1.pcI (8 : Nat) p_1 → (Decidable.decide ((↑p_1 : Int) - (1 : Int) ≥ (0 : Int)) = Bool.true → Go.Sx.inRange Go.IntKind.i64 ((8 : Int) * (↑p : Int)) ∧ Go.Sx.inRange Go.IntKind.i64 ((8 : Int) * (↑p : Int) + ((↑p_1 : Int) - (1 : Int))) ∧ ((0 : Int) ≤ (8 : Int) * (↑p : Int) + ((↑p_1 : Int) - (1 : Int)) ∧ (8 : Int) * (↑p : Int) + ((↑p_1 : Int) - (1 : Int)) < (↑(128 : Nat) : Int)) ∧ Go.Sx.Blk.fits (Go.Sx.Blk.mk Bool.true (4 : Go.TypeId) (1 : Nat) Bool.true (F (Go.Sx.M.pL (8 : Nat) (Go.Proofs.YtkdcajibehpeaaaDoor.L1.vs4 l) p p_1))) ((0 : Nat) + Int.toNat ((8 : Int) * (↑p : Int) + ((↑p_1 : Int) - (1 : Int)))) (0 : Nat) (Go.Sx.AV.bool (Int.tmod (↑(Go.Proofs.YtkdcajibehpeaaaDoor.L1.pV (8 : Nat) (Go.Proofs.YtkdcajibehpeaaaDoor.L1.vs4 l) p p_1) : Int) (2 : Int) == (1 : Int))) = Bool.true ∧ Go.Sx.Blk.writes (Go.Sx.Blk.mk Bool.true (4 : Go.TypeId) (1 : Nat) Bool.true (F (Go.Sx.M.pL (8 : Nat) (Go.Proofs.YtkdcajibehpeaaaDoor.L1.vs4 l) p p_1))) ((0 : Nat) + Int.toNat ((8 : Int) * (↑p : Int) + ((↑p_1 : Int) - (1 : Int)))) (0 : Nat) (Go.Sx.AV.bool (Int.tmod (↑(Go.Proofs.YtkdcajibehpeaaaDoor.L1.pV (8 : Nat) (Go.Proofs.YtkdcajibehpeaaaDoor.L1.vs4 l) p p_1) : Int) (2 : Int) == (1 : Int))) (F (Go.Sx.M.pL (8 : Nat) (Go.Proofs.YtkdcajibehpeaaaDoor.L1.vs4 l) p (p_1 - (1 : Nat)))) ∧ Go.Sx.inRange Go.IntKind.i64 (Int.tdiv (↑(Go.Proofs.YtkdcajibehpeaaaDoor.L1.pV (8 : Nat) (Go.Proofs.YtkdcajibehpeaaaDoor.L1.vs4 l) p p_1) : Int) (2 : Int)) ∧ Go.Sx.inRange Go.IntKind.i64 ((↑p_1 : Int) - (1 : Int) - (1 : Int)) ∧ ∃ (p' : Nat), Go.Sx.St.mk [Go.Sx.AV.int Go.IntKind.i64 (32 : Int), Go.Sx.AV.any, Go.Sx.AV.any, Go.Sx.AV.any, Go.Sx.AV.ptr (0 : Nat) (0 : Nat) (0 : Nat) Bool.true, Go.Sx.AV.lit (Go.Value.int Go.IntKind.i64 (0 : Int)), Go.Sx.AV.any, Go.Sx.AV.lit (Go.Value.int Go.IntKind.i64 (8 : Int)), Go.Sx.AV.vsl ((0 : Nat) + (1 : Nat)) (0 : Nat) (Go.Proofs.YtkdcajibehpeaaaDoor.L1.pN (46 : UInt8) l), Go.Sx.AV.vsl ((0 : Nat) + (1 : Nat) + (1 : Nat)) (0 : Nat) (128 : Nat), Go.Sx.AV.int Go.IntKind.i64 (↑p : Int), Go.Sx.AV.int Go.IntKind.i64 (Int.tdiv (↑(Go.Proofs.YtkdcajibehpeaaaDoor.L1.pV (8 : Nat) (Go.Proofs.YtkdcajibehpeaaaDoor.L1.vs4 l) p p_1) : Int) (2 : Int)), Go.Sx.AV.any, Go.Sx.AV.any, Go.Sx.AV.int Go.IntKind.i64 ((↑p_1 : Int) - (1 : Int) - (1 : Int)), Go.Sx.AV.any, Go.Sx.AV.any, Go.Sx.AV.any, Go.Sx.AV.any, Go.Sx.AV.any, Go.Sx.AV.any, Go.Sx.AV.any, Go.Sx.AV.any, Go.Sx.AV.any, Go.Sx.AV.any, Go.Sx.AV.any, Go.Sx.AV.any, Go.Sx.AV.any, Go.Sx.AV.any, Go.Sx.AV.any, Go.Sx.AV.any, Go.Sx.AV.any, Go.Sx.AV.any, Go.Sx.AV.any, Go.Sx.AV.any, Go.Sx.AV.any, Go.Sx.AV.any, Go.Sx.AV.any, Go.Sx.AV.any, Go.Sx.AV.any, Go.Sx.AV.any, Go.Sx.AV.any, Go.Sx.AV.any, Go.Sx.AV.any, Go.Sx.AV.any, Go.Sx.AV.any, Go.Sx.AV.any, Go.Sx.AV.any, Go.Sx.AV.any, Go.Sx.AV.any, Go.Sx.AV.any, Go.Sx.AV.any, Go.Sx.AV.any, Go.Sx.AV.any, Go.Sx.AV.any, Go.Sx.AV.any, Go.Sx.AV.any, Go.Sx.AV.any, Go.Sx.AV.any, Go.Sx.AV.any, Go.Sx.AV.any, Go.Sx.AV.any, Go.Sx.AV.any, Go.Sx.AV.any, Go.Sx.AV.any, Go.Sx.AV.any, Go.Sx.AV.any, Go.Sx.AV.any, Go.Sx.AV.any, Go.Sx.AV.any, Go.Sx.AV.any, Go.Sx.AV.any, Go.Sx.AV.any, Go.Sx.AV.any, Go.Sx.AV.any, Go.Sx.AV.any, Go.Sx.AV.any, Go.Sx.AV.any, Go.Sx.AV.any, Go.Sx.AV.any, Go.Sx.AV.any, Go.Sx.AV.any] [Option.some (Go.Sx.Blk.mk Bool.true (23 : Go.TypeId) (2 : Nat) Bool.true [Go.Sx.AV.agg [Go.Sx.AV.lit (Go.Value.int Go.IntKind.u64 (0 : Int)), Go.Sx.AV.lit (Go.Value.int Go.IntKind.u64 (0 : Int))]]), Option.some (Go.Sx.Blk.mk Bool.true (9 : Go.TypeId) (1 : Nat) Bool.true (Go.Proofs.YtkdcajibehpeaaaDoor.L1.rowS (Go.Sx.M.spl (46 : UInt8) l))), Option.some (Go.Sx.Blk.mk Bool.true (nat_lit 4) (1 : Nat) Bool.true (F (Go.Sx.M.pL (8 : Nat) (Go.Proofs.YtkdcajibehpeaaaDoor.L1.vs4 l) p (p_1 - (1 : Nat)))))] = Go.Proofs.YtkdcajibehpeaaaDoor.L1.pcN (32 : Int) (8 : Int) (8 : Nat) (46 : UInt8) l (Go.Proofs.YtkdcajibehpeaaaDoor.L1.vs4 l) F p p' ∧ Go.Proofs.YtkdcajibehpeaaaDoor.L1.pcI (8 : Nat) p' ∧ p' < p_1) ∧ (Decidable.decide ((↑p_1 : Int) - (1 : Int) ≥ (0 : Int)) = Bool.false → Go.Sx.inRange Go.IntKind.i64 ((↑p : Int) + (1 : Int)) ∧ ∃ (p' : Nat), Go.Sx.St.mk [Go.Sx.AV.int Go.IntKind.i64 (32 : Int), Go.Sx.AV.any, Go.Sx.AV.any, Go.Sx.AV.any, Go.Sx.AV.ptr (0 : Nat) (0 : Nat) (0 : Nat) Bool.true, Go.Sx.AV.lit (Go.Value.int Go.IntKind.i64 (0 : Int)), Go.Sx.AV.any, Go.Sx.AV.lit (Go.Value.int Go.IntKind.i64 (8 : Int)), Go.Sx.AV.vsl ((0 : Nat) + (1 : Nat)) (0 : Nat) (Go.Proofs.YtkdcajibehpeaaaDoor.L1.pN (46 : UInt8) l), Go.Sx.AV.vsl ((0 : Nat) + (1 : Nat) + (1 : Nat)) (0 : Nat) (128 : Nat), Go.Sx.AV.int Go.IntKind.i64 ((↑p : Int) + (1 : Int)), Go.Sx.AV.any, Go.Sx.AV.any, Go.Sx.AV.any, Go.Sx.AV.any, Go.Sx.AV.any, Go.Sx.AV.any, Go.Sx.AV.any, Go.Sx.AV.any, Go.Sx.AV.any, Go.Sx.AV.any, Go.Sx.AV.any, Go.Sx.AV.any, Go.Sx.AV.any, Go.Sx.AV.any, Go.Sx.AV.any, Go.Sx.AV.any, Go.Sx.AV.any, Go.Sx.AV.any, Go.Sx.AV.any, Go.Sx.AV.any, Go.Sx.AV.any, Go.Sx.AV.any, Go.Sx.AV.any, Go.Sx.AV.any, Go.Sx.AV.any, Go.Sx.AV.any, Go.Sx.AV.any, Go.Sx.AV.any, Go.Sx.AV.any, Go.Sx.AV.any, Go.Sx.AV.any, Go.Sx.AV.any, Go.Sx.AV.any, Go.Sx.AV.any, Go.Sx.AV.any, Go.Sx.AV.any, Go.Sx.AV.any, Go.Sx.AV.any, Go.Sx.AV.any, Go.Sx.AV.any, Go.Sx.AV.any, Go.Sx.AV.any, Go.Sx.AV.any, Go.Sx.AV.any, Go.Sx.AV.any, Go.Sx.AV.any, Go.Sx.AV.any, Go.Sx.AV.any, Go.Sx.AV.any, Go.Sx.AV.any, Go.Sx.AV.any, Go.Sx.AV.any, Go.Sx.AV.any, Go.Sx.AV.any, Go.Sx.AV.any, Go.Sx.AV.any, Go.Sx.AV.any, Go.Sx.AV.any, Go.Sx.AV.any, Go.Sx.AV.any, Go.Sx.AV.any, Go.Sx.AV.any, Go.Sx.AV.any, Go.Sx.AV.any, Go.Sx.AV.any, Go.Sx.AV.any, Go.Sx.AV.any, Go.Sx.AV.any, Go.Sx.AV.any, Go.Sx.AV.any, Go.Sx.AV.any] [Option.some (Go.Sx.Blk.mk Bool.true (23 : Go.TypeId) (2 : Nat) Bool.true [Go.Sx.AV.agg [Go.Sx.AV.lit (Go.Value.int Go.IntKind.u64 (0 : Int)), Go.Sx.AV.lit (Go.Value.int Go.IntKind.u64 (0 : Int))]]), Option.some (Go.Sx.Blk.mk Bool.true (9 : Go.TypeId) (1 : Nat) Bool.true (Go.Proofs.YtkdcajibehpeaaaDoor.L1.rowS (Go.Sx.M.spl (46 : UInt8) l))), Option.some (Go.Sx.Blk.mk Bool.true (4 : Go.TypeId) (1 : Nat) Bool.true (F (Go.Sx.M.pL (8 : Nat) (Go.Proofs.YtkdcajibehpeaaaDoor.L1.vs4 l) p p_1)))] = Go.Proofs.YtkdcajibehpeaaaDoor.L1.pcO (32 : Int) (8 : Int) (8 : Nat) (46 : UInt8) l (Go.Proofs.YtkdcajibehpeaaaDoor.L1.vs4 l) F p' ∧ Go.Proofs.YtkdcajibehpeaaaDoor.L1.pcI4 l p' ∧ Go.Proofs.YtkdcajibehpeaaaDoor.L1.pN (46 : UInt8) l - p' < Go.Proofs.YtkdcajibehpeaaaDoor.L1.pN (46 : UInt8) l - p))) ∧ (Decidable.decide ((↑p : Int) < (↑(Go.Proofs.YtkdcajibehpeaaaDoor.L1.pN (46 : UInt8) l) : Int)) = Bool.false → (0 : Nat) + (128 : Nat) ≤ List.length (F (Go.Sx.M.pL (8 : Nat) (Go.Proofs.YtkdcajibehpeaaaDoor.L1.vs4 l) p (8 : Nat))) ∧ ∃ (l_1 : List Bool), List.take (128 : Nat) (List.drop (0 : Nat) (F (Go.Sx.M.pL (8 : Nat) (Go.Proofs.YtkdcajibehpeaaaDoor.L1.vs4 l) p (8 : Nat)))) = List.map Go.Sx.AV.bool l_1 ∧ List.length l_1 = (128 : Nat) ∧ Go.Sx.AV.tuple [Go.Sx.AV.agg [Go.Sx.AV.w64 (Go.Sx.M.W (fun (i : Nat) => List.getD l_1 ((0 : Nat) + i) Bool.false) (64 : Nat)), Go.Sx.AV.w64 (Go.Sx.M.W (fun (i : Nat) => List.getD l_1 ((64 : Nat) + i) Bool.false) (64 : Nat))], Go.Sx.AV.int Go.IntKind.i64 (0 : Int)] = r))) := by kernel_rfl

theorem pc6_run (l : List UInt8) (F : List Bool → List AV) (r : AV) : run rpaCs Tryd.prog 19 [.int .i64 128, .val (.string (tx l))] [] (pcH6 l F) (yields (.v r)) =
    (((128 : Int) != (32 : Int)) = Bool.true ∧ ((128 : Int) != (128 : Int)) = Bool.false ∧ ((128 : Int) == (128 : Int)) = Bool.true ∧ ByteArray.size (Go.Sx.M.tx l) ≤ (1000000 : Nat) ∧ (0 : Int) ≤ (58 : Int) ∧ (58 : Int) < (256 : Int) ∧ Go.Sx.inRange Go.IntKind.i64 (Int.tdiv (128 : Int) (16 : Int)) ∧ (((↑(List.length (Go.Proofs.YtkdcajibehpeaaaDoor.L1.rowS (Go.Sx.M.spl (Nat.toUInt8 (Int.toNat (58 : Int))) (Array.toList (ByteArray.data (Go.Sx.M.tx l)))))) : Int) != Int.tdiv (128 : Int) (16 : Int)) = Bool.true → Go.Sx.AV.tuple [Go.Sx.AV.agg [Go.Sx.AV.w64 (BitVec.ofInt (64 : Nat) (0 : Int)), Go.Sx.AV.w64 (BitVec.ofInt (64 : Nat) (0 : Int))], Go.Sx.AV.int Go.IntKind.i64 (4 : Int)] = r) ∧ (((↑(List.length (Go.Proofs.YtkdcajibehpeaaaDoor.L1.rowS (Go.Sx.M.spl (Nat.toUInt8 (Int.toNat (58 : Int))) (Array.toList (ByteArray.data (Go.Sx.M.tx l)))))) : Int) != Int.tdiv (128 : Int) (16 : Int)) = Bool.false → (Go.Sx.St.mk [Go.Sx.AV.int Go.IntKind.i64 (128 : Int), Go.Sx.AV.any, Go.Sx.AV.any, Go.Sx.AV.any, Go.Sx.AV.ptr (0 : Nat) (0 : Nat) (0 : Nat) Bool.true, Go.Sx.AV.lit (Go.Value.int Go.IntKind.i64 (0 : Int)), Go.Sx.AV.any, Go.Sx.AV.lit (Go.Value.int Go.IntKind.i64 (16 : Int)), Go.Sx.AV.vsl ((0 : Nat) + (1 : Nat)) (0 : Nat) (List.length (Go.Proofs.YtkdcajibehpeaaaDoor.L1.rowS (Go.Sx.M.spl (Nat.toUInt8 (Int.toNat (58 : Int))) (Array.toList (ByteArray.data (Go.Sx.M.tx l)))))), Go.Sx.AV.vsl ((0 : Nat) + (1 : Nat) + (1 : Nat)) (0 : Nat) (Int.toNat (128 : Int)), Go.Sx.AV.int Go.IntKind.i64 (0 : Int), Go.Sx.AV.any, Go.Sx.AV.any, Go.Sx.AV.any, Go.Sx.AV.any, Go.Sx.AV.any, Go.Sx.AV.any, Go.Sx.AV.any, Go.Sx.AV.any, Go.Sx.AV.any, Go.Sx.AV.any, Go.Sx.AV.any, Go.Sx.AV.any, Go.Sx.AV.any, Go.Sx.AV.any, Go.Sx.AV.any, Go.Sx.AV.any, Go.Sx.AV.any, Go.Sx.AV.any, Go.Sx.AV.any, Go.Sx.AV.any, Go.Sx.AV.any, Go.Sx.AV.any, Go.Sx.AV.any, Go.Sx.AV.any, Go.Sx.AV.any, Go.Sx.AV.any, Go.Sx.AV.any, Go.Sx.AV.any, Go.Sx.AV.any, Go.Sx.AV.any, Go.Sx.AV.any, Go.Sx.AV.any, Go.Sx.AV.any, Go.Sx.AV.any, Go.Sx.AV.any, Go.Sx.AV.any, Go.Sx.AV.any, Go.Sx.AV.any, Go.Sx.AV.any, Go.Sx.AV.any, Go.Sx.AV.any, Go.Sx.AV.any, Go.Sx.AV.any, Go.Sx.AV.any, Go.Sx.AV.any, Go.Sx.AV.any, Go.Sx.AV.any, Go.Sx.AV.any, Go.Sx.AV.any, Go.Sx.AV.any, Go.Sx.AV.any, Go.Sx.AV.any, Go.Sx.AV.any, Go.Sx.AV.any, Go.Sx.AV.any, Go.Sx.AV.any, Go.Sx.AV.any, Go.Sx.AV.any, Go.Sx.AV.any, Go.Sx.AV.any, Go.Sx.AV.any, Go.Sx.AV.any, Go.Sx.AV.any, Go.Sx.AV.any, Go.Sx.AV.any, Go.Sx.AV.any, Go.Sx.AV.any, Go.Sx.AV.any, Go.Sx.AV.any, Go.Sx.AV.any, Go.Sx.AV.any] [Option.some (Go.Sx.Blk.mk Bool.true (23 : Nat) (2 : Nat) Bool.true [Go.Sx.AV.agg [Go.Sx.AV.lit (Go.Value.int Go.IntKind.u64 (0 : Int)), Go.Sx.AV.lit (Go.Value.int Go.IntKind.u64 (0 : Int))]]), Option.some (Go.Sx.Blk.mk Bool.true (9 : Go.TypeId) (1 : Nat) Bool.true (Go.Proofs.YtkdcajibehpeaaaDoor.L1.rowS (Go.Sx.M.spl (Nat.toUInt8 (Int.toNat (58 : Int))) (Array.toList (ByteArray.data (Go.Sx.M.tx l)))))), Option.some (Go.Sx.Blk.mk Bool.true (nat_lit 4) (1 : Nat) Bool.true [Go.Sx.AV.bool Bool.false, Go.Sx.AV.bool Bool.false, Go.Sx.AV.bool Bool.false, Go.Sx.AV.bool Bool.false, Go.Sx.AV.bool Bool.false, Go.Sx.AV.bool Bool.false, Go.Sx.AV.bool Bool.false, Go.Sx.AV.bool Bool.false, Go.Sx.AV.bool Bool.false, Go.Sx.AV.bool Bool.false, Go.Sx.AV.bool Bool.false, Go.Sx.AV.bool Bool.false, Go.Sx.AV.bool Bool.false, Go.Sx.AV.bool Bool.false, Go.Sx.AV.bool Bool.false, Go.Sx.AV.bool Bool.false, Go.Sx.AV.bool Bool.false, Go.Sx.AV.bool Bool.false, Go.Sx.AV.bool Bool.false, Go.Sx.AV.bool Bool.false, Go.Sx.AV.bool Bool.false, Go.Sx.AV.bool Bool.false, Go.Sx.AV.bool Bool.false, Go.Sx.AV.bool Bool.false, Go.Sx.AV.bool Bool.false, Go.Sx.AV.bool Bool.false, Go.Sx.AV.bool Bool.false, Go.Sx.AV.bool Bool.false, Go.Sx.AV.bool Bool.false, Go.Sx.AV.bool Bool.false, Go.Sx.AV.bool Bool.false, Go.Sx.AV.bool Bool.false, Go.Sx.AV.bool Bool.false, Go.Sx.AV.bool Bool.false, Go.Sx.AV.bool Bool.false, Go.Sx.AV.bool Bool.false, Go.Sx.AV.bool Bool.false, Go.Sx.AV.bool Bool.false, Go.Sx.AV.bool Bool.false, Go.Sx.AV.bool Bool.false, Go.Sx.AV.bool Bool.false, Go.Sx.AV.bool Bool.false, Go.Sx.AV.bool Bool.false, Go.Sx.AV.bool Bool.false, Go.Sx.AV.bool Bool.false, Go.Sx.AV.bool Bool.false, Go.Sx.AV.bool Bool.false, Go.Sx.AV.bool Bool.false, Go.Sx.AV.bool Bool.false, Go.Sx.AV.bool Bool.false, Go.Sx.AV.bool Bool.false, Go.Sx.AV.bool Bool.false, Go.Sx.AV.bool Bool.false, Go.Sx.AV.bool Bool.false, Go.Sx.AV.bool Bool.false, Go.Sx.AV.bool Bool.false, Go.Sx.AV.bool Bool.false, Go.Sx.AV.bool Bool.false, Go.Sx.AV.bool Bool.false, Go.Sx.AV.bool Bool.false, Go.Sx.AV.bool Bool.false, Go.Sx.AV.bool Bool.false, Go.Sx.AV.bool Bool.false, Go.Sx.AV.bool Bool.false, Go.Sx.AV.bool Bool.false, Go.Sx.AV.bool Bool.false, Go.Sx.AV.bool Bool.false, Go.Sx.AV.bool Bool.false, Go.Sx.AV.bool Bool.false, Go.Sx.AV.bool Bool.false, Go.Sx.AV.bool Bool.false, Go.Sx.AV.bool Bool.false, Go.Sx.AV.bool Bool.false, Go.Sx.AV.bool Bool.false, Go.Sx.AV.bool Bool.false, Go.Sx.AV.bool Bool.false, Go.Sx.AV.bool Bool.false, Go.Sx.AV.bool Bool.false, Go.Sx.AV.bool Bool.false, Go.Sx.AV.bool Bool.false, Go.Sx.AV.bool Bool.false, Go.Sx.AV.bool Bool.false, Go.Sx.AV.bool Bool.false, Go.Sx.AV.bool Bool.false, Go.Sx.AV.bool Bool.false, Go.Sx.AV.bool Bool.false, Go.Sx.AV.bool Bool.false, Go.Sx.AV.bool Bool.false, Go.Sx.AV.bool Bool.false, Go.Sx.AV.bool Bool.false, Go.Sx.AV.bool Bool.false, Go.Sx.AV.bool Bool.false, Go.Sx.AV.bool Bool.false, Go.Sx.AV.bool Bool.false, Go.Sx.AV.bool Bool.false, Go.Sx.AV.bool Bool.false, Go.Sx.AV.bool Bool.false, Go.Sx.AV.bool Bool.false, Go.Sx.AV.bool Bool.false, Go.Sx.AV.bool Bool.false, Go.Sx.AV.bool Bool.false, Go.Sx.AV.bool Bool.false, Go.Sx.AV.bool Bool.false, Go.Sx.AV.bool Bool.false, Go.Sx.AV.bool Bool.false, Go.Sx.AV.bool Bool.false, Go.Sx.AV.bool Bool.false, Go.Sx.AV.bool Bool.false, Go.Sx.AV.bool Bool.false, Go.Sx.AV.bool Bool.false, Go.Sx.AV.bool Bool.false, Go.Sx.AV.bool Bool.false, Go.Sx.AV.bool Bool.false, Go.Sx.AV.bool Bool.false, Go.Sx.AV.bool Bool.false, Go.Sx.AV.bool Bool.false, Go.Sx.AV.bool Bool.false, Go.Sx.AV.bool Bool.false, Go.Sx.AV.bool Bool.false, Go.Sx.AV.bool Bool.false, Go.Sx.AV.bool Bool.false, Go.Sx.AV.bool Bool.false, Go.Sx.AV.bool Bool.false, Go.Sx.AV.bool Bool.false, Go.Sx.AV.bool Bool.false, Go.Sx.AV.bool Bool.false, Go.Sx.AV.bool Bool.false, Go.Sx.AV.bool Bool.false])] = Go.Proofs.YtkdcajibehpeaaaDoor.L1.pcO (128 : Int) (16 : Int) (16 : Nat) (58 : UInt8) l (Go.Proofs.YtkdcajibehpeaaaDoor.L1.vs6 l) F (0 : Nat) ∧ Go.Proofs.YtkdcajibehpeaaaDoor.L1.pcI6 l (0 : Nat)) ∧ ∀ (p : Nat), Go.Proofs.YtkdcajibehpeaaaDoor.L1.pcI6 l p → (Decidable.decide ((↑p : Int) < (↑(Go.Proofs.YtkdcajibehpeaaaDoor.L1.pN (58 : UInt8) l) : Int)) = Bool.true → ((0 : Int) ≤ (↑p : Int) ∧ (↑p : Int) < (↑(Go.Proofs.YtkdcajibehpeaaaDoor.L1.pN (58 : UInt8) l) : Int)) ∧ Go.Sx.Blk.read Go.Proofs.Tryd.prog (Go.Sx.Blk.mk Bool.true (9 : Go.TypeId) (1 : Nat) Bool.true (Go.Proofs.YtkdcajibehpeaaaDoor.L1.rowS (Go.Sx.M.spl (58 : UInt8) l))) (9 : Nat) ((0 : Nat) + Int.toNat (↑p : Int)) (0 : Nat) = Option.some (Go.Sx.AV.val (Go.Value.string (Go.Sx.M.tx (Go.Proofs.YtkdcajibehpeaaaDoor.L1.pG (58 : UInt8) l p)))) ∧ ByteArray.size (Go.Sx.M.tx (Go.Proofs.YtkdcajibehpeaaaDoor.L1.pG (58 : UInt8) l p)) ≤ (1000000 : Nat) ∧ ((128 : Int) == (32 : Int)) = Bool.false ∧ (Decidable.decide (Go.Sx.M.fourV (Array.toList (ByteArray.data (Go.Sx.M.tx (Go.Proofs.YtkdcajibehpeaaaDoor.L1.pG (58 : UInt8) l p)))) < (0 : Int)) = Bool.true → Go.Sx.AV.tuple [Go.Sx.AV.agg [Go.Sx.AV.w64 (BitVec.ofInt (64 : Nat) (0 : Int)), Go.Sx.AV.w64 (BitVec.ofInt (64 : Nat) (0 : Int))], Go.Sx.AV.int Go.IntKind.i64 (4 : Int)] = r) ∧ (Decidable.decide (Go.Sx.M.fourV (Array.toList (ByteArray.data (Go.Sx.M.tx (Go.Proofs.YtkdcajibehpeaaaDoor.L1.pG (58 : UInt8) l p)))) < (0 : Int)) = Bool.false → (Go.Sx.St.mk [Go.Sx.AV.int Go.IntKind.i64 (128 : Int), Go.Sx.AV.any, Go.Sx.AV.any, Go.Sx.AV.any, Go.Sx.AV.ptr (0 : Nat) (0 : Nat) (0 : Nat) Bool.true, Go.Sx.AV.lit (Go.Value.int Go.IntKind.i64 (0 : Int)), Go.Sx.AV.any, Go.Sx.AV.lit (Go.Value.int Go.IntKind.i64 (16 : Int)), Go.Sx.AV.vsl ((0 : Nat) + (1 : Nat)) (0 : Nat) (Go.Proofs.YtkdcajibehpeaaaDoor.L1.pN (58 : UInt8) l), Go.Sx.AV.vsl ((0 : Nat) + (1 : Nat) + (1 : Nat)) (0 : Nat) (128 : Nat), Go.Sx.AV.int Go.IntKind.i64 (↑p : Int), Go.Sx.AV.int Go.IntKind.i64 (Go.Sx.M.fourV (Array.toList (ByteArray.data (Go.Sx.M.tx (Go.Proofs.YtkdcajibehpeaaaDoor.L1.pG (58 : UInt8) l p))))), Go.Sx.AV.any, Go.Sx.AV.any, Go.Sx.AV.int Go.IntKind.i64 (15 : Int), Go.Sx.AV.any, Go.Sx.AV.any, Go.Sx.AV.any, Go.Sx.AV.any, Go.Sx.AV.any, Go.Sx.AV.any, Go.Sx.AV.any, Go.Sx.AV.any, Go.Sx.AV.any, Go.Sx.AV.any, Go.Sx.AV.any, Go.Sx.AV.any, Go.Sx.AV.any, Go.Sx.AV.any, Go.Sx.AV.any, Go.Sx.AV.any, Go.Sx.AV.any, Go.Sx.AV.any, Go.Sx.AV.any, Go.Sx.AV.any, Go.Sx.AV.any, Go.Sx.AV.any, Go.Sx.AV.any, Go.Sx.AV.any, Go.Sx.AV.any, Go.Sx.AV.any, Go.Sx.AV.any, Go.Sx.AV.any, Go.Sx.AV.any, Go.Sx.AV.any, Go.Sx.AV.any, Go.Sx.AV.any, Go.Sx.AV.any, Go.Sx.AV.any, Go.Sx.AV.any, Go.Sx.AV.any, Go.Sx.AV.any, Go.Sx.AV.any, Go.Sx.AV.any, Go.Sx.AV.any, Go.Sx.AV.any, Go.Sx.AV.any, Go.Sx.AV.any, Go.Sx.AV.any, Go.Sx.AV.any, Go.Sx.AV.any, Go.Sx.AV.any, Go.Sx.AV.any, Go.Sx.AV.any, Go.Sx.AV.any, Go.Sx.AV.any, Go.Sx.AV.any, Go.Sx.AV.any, Go.Sx.AV.any, Go.Sx.AV.any, Go.Sx.AV.any, Go.Sx.AV.any, Go.Sx.AV.any, Go.Sx.AV.any, Go.Sx.AV.any, Go.Sx.AV.any, Go.Sx.AV.any, Go.Sx.AV.any, Go.Sx.AV.any, Go.Sx.AV.any, Go.Sx.AV.any, Go.Sx.AV.any] [Option.some (Go.Sx.Blk.mk Bool.true (23 : Go.TypeId) (2 : Nat) Bool.true [Go.Sx.AV.agg [Go.Sx.AV.lit (Go.Value.int Go.IntKind.u64 (0 : Int)), Go.Sx.AV.lit (Go.Value.int Go.IntKind.u64 (0 : Int))]]), Option.some (Go.Sx.Blk.mk Bool.true (9 : Go.TypeId) (1 : Nat) Bool.true (Go.Proofs.YtkdcajibehpeaaaDoor.L1.rowS (Go.Sx.M.spl (58 : UInt8) l))), Option.some (Go.Sx.Blk.mk Bool.true (4 : Go.TypeId) (1 : Nat) Bool.true (F (Go.Sx.M.pL (16 : Nat) (Go.Proofs.YtkdcajibehpeaaaDoor.L1.vs6 l) p (16 : Nat))))] = Go.Proofs.YtkdcajibehpeaaaDoor.L1.pcN (128 : Int) (16 : Int) (16 : Nat) (58 : UInt8) l (Go.Proofs.YtkdcajibehpeaaaDoor.L1.vs6 l) F p (16 : Nat) ∧ Go.Proofs.YtkdcajibehpeaaaDoor.L1.pcI (16 : Nat) (16 : Nat)) ∧ ∀ (p_1 : Nat), Go.Proofs.YtkdcajibehpeaaaDoor.L1.pcI (16 : Nat) p_1 → (Decidable.decide ((↑p_1 : Int) - (1 : Int) ≥ (0 : Int)) = Bool.true → Go.Sx.inRange Go.IntKind.i64 ((16 : Int) * (↑p : Int)) ∧ Go.Sx.inRange Go.IntKind.i64 ((16 : Int) * (↑p : Int) + ((↑p_1 : Int) - (1 : Int))) ∧ ((0 : Int) ≤ (16 : Int) * (↑p : Int) + ((↑p_1 : Int) - (1 : Int)) ∧ (16 : Int) * (↑p : Int) + ((↑p_1 : Int) - (1 : Int)) < (↑(128 : Nat) : Int)) ∧ Go.Sx.Blk.fits (Go.Sx.Blk.mk Bool.true (4 : Go.TypeId) (1 : Nat) Bool.true (F (Go.Sx.M.pL (16 : Nat) (Go.Proofs.YtkdcajibehpeaaaDoor.L1.vs6 l) p p_1))) ((0 : Nat) + Int.toNat ((16 : Int) * (↑p : Int) + ((↑p_1 : Int) - (1 : Int)))) (0 : Nat) (Go.Sx.AV.bool (Int.tmod (↑(Go.Proofs.YtkdcajibehpeaaaDoor.L1.pV (16 : Nat) (Go.Proofs.YtkdcajibehpeaaaDoor.L1.vs6 l) p p_1) : Int) (2 : Int) == (1 : Int))) = Bool.true ∧ Go.Sx.Blk.writes (Go.Sx.Blk.mk Bool.true (4 : Go.TypeId) (1 : Nat) Bool.true (F (Go.Sx.M.pL (16 : Nat) (Go.Proofs.YtkdcajibehpeaaaDoor.L1.vs6 l) p p_1))) ((0 : Nat) + Int.toNat ((16 : Int) * (↑p : Int) + ((↑p_1 : Int) - (1 : Int)))) (0 : Nat) (Go.Sx.AV.bool (Int.tmod (↑(Go.Proofs.YtkdcajibehpeaaaDoor.L1.pV (16 : Nat) (Go.Proofs.YtkdcajibehpeaaaDoor.L1.vs6 l) p p_1) : Int) (2 : Int) == (1 : Int))) (F (Go.Sx.M.pL (16 : Nat) (Go.Proofs.YtkdcajibehpeaaaDoor.L1.vs6 l) p (p_1 - (1 : Nat)))) ∧ Go.Sx.inRange Go.IntKind.i64 (Int.tdiv (↑(Go.Proofs.YtkdcajibehpeaaaDoor.L1.pV (16 : Nat) (Go.Proofs.YtkdcajibehpeaaaDoor.L1.vs6 l) p p_1) : Int) (2 : Int)) ∧ Go.Sx.inRange Go.IntKind.i64 ((↑p_1 : Int) - (1 : Int) - (1 : Int)) ∧ ∃ (p' : Nat), Go.Sx.St.mk [Go.Sx.AV.int Go.IntKind.i64 (128 : Int), Go.Sx.AV.any, Go.Sx.AV.any, Go.Sx.AV.any, Go.Sx.AV.ptr (0 : Nat) (0 : Nat) (0 : Nat) Bool.true, Go.Sx.AV.lit (Go.Value.int Go.IntKind.i64 (0 : Int)), Go.Sx.AV.any, Go.Sx.AV.lit (Go.Value.int Go.IntKind.i64 (16 : Int)), Go.Sx.AV.vsl ((0 : Nat) + (1 : Nat)) (0 : Nat) (Go.Proofs.YtkdcajibehpeaaaDoor.L1.pN (58 : UInt8) l), Go.Sx.AV.vsl ((0 : Nat) + (1 : Nat) + (1 : Nat)) (0 : Nat) (128 : Nat), Go.Sx.AV.int Go.IntKind.i64 (↑p : Int), Go.Sx.AV.int Go.IntKind.i64 (Int.tdiv (↑(Go.Proofs.YtkdcajibehpeaaaDoor.L1.pV (16 : Nat) (Go.Proofs.YtkdcajibehpeaaaDoor.L1.vs6 l) p p_1) : Int) (2 : Int)), Go.Sx.AV.any, Go.Sx.AV.any, Go.Sx.AV.int Go.IntKind.i64 ((↑p_1 : Int) - (1 : Int) - (1 : Int)), Go.Sx.AV.any, Go.Sx.AV.any, Go.Sx.AV.any, Go.Sx.AV.any, Go.Sx.AV.any, Go.Sx.AV.any, Go.Sx.AV.any, Go.Sx.AV.any, Go.Sx.AV.any, Go.Sx.AV.any, Go.Sx.AV.any, Go.Sx.AV.any, Go.Sx.AV.any, Go.Sx.AV.any, Go.Sx.AV.any, Go.Sx.AV.any, Go.Sx.AV.any, Go.Sx.AV.any, Go.Sx.AV.any, Go.Sx.AV.any, Go.Sx.AV.any, Go.Sx.AV.any, Go.Sx.AV.any, Go.Sx.AV.any, Go.Sx.AV.any, Go.Sx.AV.any, Go.Sx.AV.any, Go.Sx.AV.any, Go.Sx.AV.any, Go.Sx.AV.any, Go.Sx.AV.any, Go.Sx.AV.any, Go.Sx.AV.any, Go.Sx.AV.any, Go.Sx.AV.any, Go.Sx.AV.any, Go.Sx.AV.any, Go.Sx.AV.any, Go.Sx.AV.any, Go.Sx.AV.any, Go.Sx.AV.any, Go.Sx.AV.any, Go.Sx.AV.any, Go.Sx.AV.any, Go.Sx.AV.any, Go.Sx.AV.any, Go.Sx.AV.any, Go.Sx.AV.any, Go.Sx.AV.any, Go.Sx.AV.any, Go.Sx.AV.any, Go.Sx.AV.any, Go.Sx.AV.any, Go.Sx.AV.any, Go.Sx.AV.any, Go.Sx.AV.any, Go.Sx.AV.any, Go.Sx.AV.any, Go.Sx.AV.any, Go.Sx.AV.any, Go.Sx.AV.any, Go.Sx.AV.any, Go.Sx.AV.any, Go.Sx.AV.any, Go.Sx.AV.any, Go.Sx.AV.any, Go.Sx.AV.any] [Option.some (Go.Sx.Blk.mk Bool.true (23 : Go.TypeId) (2 : Nat) Bool.true [Go.Sx.AV.agg [Go.Sx.AV.lit (Go.Value.int Go.IntKind.u64 (0 : Int)), Go.Sx.AV.lit (Go.Value.int Go.IntKind.u64 (0 : Int))]]), Option.some (Go.Sx.Blk.mk Bool.true (9 : Go.TypeId) (1 : Nat) Bool.true (Go.Proofs.YtkdcajibehpeaaaDoor.L1.rowS (Go.Sx.M.spl (58 : UInt8) l))), Option.some (Go.Sx.Blk.mk Bool.true (nat_lit 4) (1 : Nat) Bool.true (F (Go.Sx.M.pL (16 : Nat) (Go.Proofs.YtkdcajibehpeaaaDoor.L1.vs6 l) p (p_1 - (1 : Nat)))))] = Go.Proofs.YtkdcajibehpeaaaDoor.L1.pcN (128 : Int) (16 : Int) (16 : Nat) (58 : UInt8) l (Go.Proofs.YtkdcajibehpeaaaDoor.L1.vs6 l) F p p' ∧ Go.Proofs.YtkdcajibehpeaaaDoor.L1.pcI (16 : Nat) p' ∧ p' < p_1) ∧ (Decidable.decide ((↑p_1 : Int) - (1 : Int) ≥ (0 : Int)) = Bool.false → Go.Sx.inRange Go.IntKind.i64 ((↑p : Int) + (1 : Int)) ∧ ∃ (p' : Nat), Go.Sx.St.mk [Go.Sx.AV.int Go.IntKind.i64 (128 : Int), Go.Sx.AV.any, Go.Sx.AV.any, Go.Sx.AV.any, Go.Sx.AV.ptr (0 : Nat) (0 : Nat) (0 : Nat) Bool.true, Go.Sx.AV.lit (Go.Value.int Go.IntKind.i64 (0 : Int)), Go.Sx.AV.any, Go.Sx.AV.lit (Go.Value.int Go.IntKind.i64 (16 : Int)), Go.Sx.AV.vsl ((0 : Nat) + (1 : Nat)) (0 : Nat) (Go.Proofs.YtkdcajibehpeaaaDoor.L1.pN (58 : UInt8) l), Go.Sx.AV.vsl ((0 : Nat) + (1 : Nat) + (1 : Nat)) (0 : Nat) (128 : Nat), Go.Sx.AV.int Go.IntKind.i64 ((↑p : Int) + (1 : Int)), Go.Sx.AV.any, Go.Sx.AV.any, Go.Sx.AV.any, Go.Sx.AV.any, Go.Sx.AV.any, Go.Sx.AV.any, Go.Sx.AV.any, Go.Sx.AV.any, Go.Sx.AV.any, Go.Sx.AV.any, Go.Sx.AV.any, Go.Sx.AV.any, Go.Sx.AV.any, Go.Sx.AV.any, Go.Sx.AV.any, Go.Sx.AV.any, Go.Sx.AV.any, Go.Sx.AV.any, Go.Sx.AV.any, Go.Sx.AV.any, Go.Sx.AV.any, Go.Sx.AV.any, Go.Sx.AV.any, Go.Sx.AV.any, Go.Sx.AV.any, Go.Sx.AV.any, Go.Sx.AV.any, Go.Sx.AV.any, Go.Sx.AV.any, Go.Sx.AV.any, Go.Sx.AV.any, Go.Sx.AV.any, Go.Sx.AV.any, Go.Sx.AV.any, Go.Sx.AV.any, Go.Sx.AV.any, Go.Sx.AV.any, Go.Sx.AV.any, Go.Sx.AV.any, Go.Sx.AV.any, Go.Sx.AV.any, Go.Sx.AV.any, Go.Sx.AV.any, Go.Sx.AV.any, Go.Sx.AV.any, Go.Sx.AV.any, Go.Sx.AV.any, Go.Sx.AV.any, Go.Sx.AV.any, Go.Sx.AV.any, Go.Sx.AV.any, Go.Sx.AV.any, Go.Sx.AV.any, Go.Sx.AV.any, Go.Sx.AV.any, Go.Sx.AV.any, Go.Sx.AV.any, Go.Sx.AV.any, Go.Sx.AV.any, Go.Sx.AV.any, Go.Sx.AV.any, Go.Sx.AV.any, Go.Sx.AV.any, Go.Sx.AV.any, Go.Sx.AV.any, Go.Sx.AV.any, Go.Sx.AV.any, Go.Sx.AV.any, Go.Sx.AV.any, Go.Sx.AV.any, Go.Sx.AV.any] [Option.some (Go.Sx.Blk.mk Bool.true (23 : Go.TypeId) (2 : Nat) Bool.true [Go.Sx.AV.agg [Go.Sx.AV.lit (Go.Value.int Go.IntKind.u64 (0 : Int)), Go.Sx.AV.lit (Go.Value.int Go.IntKind.u64 (0 : Int))]]), Option.some (Go.Sx.Blk.mk Bool.true (9 : Go.TypeId) (1 : Nat) Bool.true (Go.Proofs.YtkdcajibehpeaaaDoor.L1.rowS (Go.Sx.M.spl (58 : UInt8) l))), Option.some (Go.Sx.Blk.mk Bool.true (4 : Go.TypeId) (1 : Nat) Bool.true (F (Go.Sx.M.pL (16 : Nat) (Go.Proofs.YtkdcajibehpeaaaDoor.L1.vs6 l) p p_1)))] = Go.Proofs.YtkdcajibehpeaaaDoor.L1.pcO (128 : Int) (16 : Int) (16 : Nat) (58 : UInt8) l (Go.Proofs.YtkdcajibehpeaaaDoor.L1.vs6 l) F p' ∧ Go.Proofs.YtkdcajibehpeaaaDoor.L1.pcI6 l p' ∧ Go.Proofs.YtkdcajibehpeaaaDoor.L1.pN (58 : UInt8) l - p' < Go.Proofs.YtkdcajibehpeaaaDoor.L1.pN (58 : UInt8) l - p))) ∧ (Decidable.decide ((↑p : Int) < (↑(Go.Proofs.YtkdcajibehpeaaaDoor.L1.pN (58 : UInt8) l) : Int)) = Bool.false → (0 : Nat) + (128 : Nat) ≤ List.length (F (Go.Sx.M.pL (16 : Nat) (Go.Proofs.YtkdcajibehpeaaaDoor.L1.vs6 l) p (16 : Nat))) ∧ ∃ (l_1 : List Bool), List.take (128 : Nat) (List.drop (0 : Nat) (F (Go.Sx.M.pL (16 : Nat) (Go.Proofs.YtkdcajibehpeaaaDoor.L1.vs6 l) p (16 : Nat)))) = List.map Go.Sx.AV.bool l_1 ∧ List.length l_1 = (128 : Nat) ∧ Go.Sx.AV.tuple [Go.Sx.AV.agg [Go.Sx.AV.w64 (Go.Sx.M.W (fun (i : Nat) => List.getD l_1 ((0 : Nat) + i) Bool.false) (64 : Nat)), Go.Sx.AV.w64 (Go.Sx.M.W (fun (i : Nat) => List.getD l_1 ((64 : Nat) + i) Bool.false) (64 : Nat))], Go.Sx.AV.int Go.IntKind.i64 (0 : Int)] = r))) := by kernel_rfl

theorem get_bool {L : List Bool} {i : Nat} (h : i < L.length) : (L.map AV.bool)[i]? = some (.bool (L.getD i false)) := by
  rw [List.getElem?_map, List.getElem?_eq_getElem h, List.getD_eq_getElem?_getD, List.getElem?_eq_getElem h]; rfl

theorem pL_fits {bits : Nat} {vs : List Nat} {k j i : Nat} {v : Bool} (h : i < 128) : (Blk.mk true 4 1 true ((pL bits vs k j).map .bool)).fits (0 + i) 0 (.bool v) = true :=
  fits_one (get_bool (by rw [pL_len]; exact h)) rfl

theorem pV_bit (bits : Nat) (vs : List Nat) (k j : Nat) : (Int.tmod ((pV bits vs k j : Nat) : Int) 2 == 1) = (vs.getD k 0).testBit (bits - j) := by
  rw [Nat.testBit_eq_decide_div_mod_eq, Int.tmod_eq_emod_of_nonneg (by omega)]
  unfold pV
  rw [Bool.eq_iff_iff, beq_iff_eq, decide_eq_true_eq]
  omega

theorem pV_next {bits : Nat} {vs : List Nat} {k j : Nat} (h1 : 1 ≤ j) (h2 : j ≤ bits) : Int.tdiv ((pV bits vs k j : Nat) : Int) 2 = ((pV bits vs k (j - 1) : Nat) : Int) := by
  rw [Int.tdiv_eq_ediv_of_nonneg (by omega)]
  unfold pV
  rw [show bits - (j - 1) = (bits - j) + 1 from by omega, Nat.pow_succ, ← Nat.div_div_eq_div_mul]
  omega

theorem pL_writes {bits : Nat} {vs : List Nat} {k j : Nat} (h1 : 1 ≤ j) (h2 : j ≤ bits) (h3 : bits * k + bits ≤ 128) : (Blk.mk true 4 1 true ((pL bits vs k j).map .bool)).writes (0 + (bits * k + (j - 1))) 0 (.bool (Int.tmod ((pV bits vs k j : Nat) : Int) 2 == 1)) ((pL bits vs k (j - 1)).map .bool) := by
  refine writes_one (get_bool (by rw [pL_len]; omega)) rfl ?_
  rw [pV_bit]
  unfold pL
  rw [← lin_set h1 h2 h3, List.map_set]

theorem pL_words (bits : Nat) (vs : List Nat) : W (fun i => (pL bits vs vs.length bits).getD (0 + i) false) 64 = (wbs bits vs 0 0#64 0#64).1 ∧ W (fun i => (pL bits vs vs.length bits).getD (64 + i) false) 64 = (wbs bits vs 0 0#64 0#64).2 := by
  rw [pL_all]
  exact wd_bits (fun p => bitAt (wbs bits vs 0 0#64 0#64).1 (wbs bits vs 0 0#64 0#64).2 p) _ _ fun _ _ => rfl

theorem part_size {c : UInt8} {l : List UInt8} {k : Nat} (hk : k < (spl c l).length) (hl : l.length ≤ 1000000) : ((spl c l).getD k []).length ≤ 1000000 := by
  rw [List.getD_eq_getElem?_getD, List.getElem?_eq_getElem hk]
  have := spl_part c _ l rfl _ (List.getElem_mem hk)
  exact Nat.le_trans this hl

theorem part_mem {c : UInt8} {l : List UInt8} {k : Nat} (hk : k < (spl c l).length) : (spl c l).getD k [] ∈ spl c l := by
  rw [List.getD_eq_getElem?_getD, List.getElem?_eq_getElem hk]
  exact List.getElem_mem hk

theorem part_val {c : UInt8} {l : List UInt8} {k : Nat} (f : List UInt8 → Nat) (hk : k < (spl c l).length) : ((spl c l).map f).getD k 0 = f ((spl c l).getD k []) := by
  rw [List.getD_eq_getElem?_getD, List.getElem?_map, List.getElem?_eq_getElem hk, List.getD_eq_getElem?_getD, List.getElem?_eq_getElem hk]; rfl

theorem part_next {c : UInt8} {l : List UInt8} {k : Nat} {p : List UInt8 → Bool} (hk : k < (spl c l).length) (h : ∀ t ∈ (spl c l).take k, p t = true) (ht : p ((spl c l).getD k []) = true) : ∀ t ∈ (spl c l).take (k + 1), p t = true := by
  intro t hm
  rw [List.take_add_one, List.getElem?_eq_getElem hk] at hm
  rcases List.mem_append.1 hm with hm | hm
  · exact h t hm
  · rw [List.getD_eq_getElem?_getD, List.getElem?_eq_getElem hk] at ht
    simp only [Option.toList_some, List.mem_singleton] at hm
    rw [hm]; exact ht

theorem rpaCs_ok : ∀ e ∈ rpaCs, SpecOK Tryd.prog e.1 e.2 := by
  intro e he
  simp only [rpaCs, List.mem_cons, List.not_mem_nil, or_false] at he
  rcases he with rfl | rfl | rfl | rfl
  · exact sp_ok
  · exact fo_ok
  · exact rnum_ok
  · exact words_ok

theorem pa32 (l : List UInt8) : parseA 32 l = if (spl 46 l).length = 4 ∧ (spl 46 l).all r4B = true then some (wbs 8 (vs4 l) 0 0#64 0#64) else none := by
  unfold parseA
  rw [if_pos rfl, pgo_spl]; rfl
theorem pa128 (l : List UInt8) : parseA 128 l = if (spl 58 l).length = 8 ∧ (spl 58 l).all r6B = true then some (wbs 16 (vs6 l) 0 0#64 0#64) else none := by
  unfold parseA
  rw [if_neg (by decide), if_pos rfl, pgo_spl]; rfl

theorem pc_bad {w : Int} (hw : w = 32 ∨ w = 128) {l : List UInt8} (h : parseA w l = none) : AV.tuple [AV.agg [AV.w64 (BitVec.ofInt 64 0), AV.w64 (BitVec.ofInt 64 0)], AV.int .i64 4] = AV.tuple [AV.agg [AV.w64 (paX w l), AV.w64 (paY w l)], AV.int .i64 (paE w l)] := by
  unfold paX paY paE
  rw [h, if_pos hw]; rfl
theorem pc_good {w : Int} (hw : w = 32 ∨ w = 128) {l : List UInt8} {x : BitVec 64 × BitVec 64} (h : parseA w l = some x) : AV.tuple [AV.agg [AV.w64 x.1, AV.w64 x.2], AV.int .i64 0] = AV.tuple [AV.agg [AV.w64 (paX w l), AV.w64 (paY w l)], AV.int .i64 (paE w l)] := by
  unfold paX paY paE
  rw [h, if_pos hw]

theorem pc32_walk (l : List UInt8) (hs : l.length ≤ 1000000) : ∃ hs, run rpaCs Tryd.prog 19 [.int .i64 32, .val (.string (tx l))] [] hs (yields (.v (.tuple [.agg [.w64 (paX 32 l), .w64 (paY 32 l)], .int .i64 (paE 32 l)]))) := by
  refine ⟨pcH4 l (List.map .bool), ?_⟩
  rw [pc4_run]
  have cc : Nat.toUInt8 (Int.toNat 46) = 46 := rfl
  have td : Int.tdiv 32 8 = 4 := rfl
  have nt : Int.toNat 128 = 128 := rfl
  simp only [cc, td, nt, tx_data, rowS_len]
  have bad : ¬ ((spl 46 l).length = 4 ∧ (spl 46 l).all r4B = true) → AV.tuple [AV.agg [AV.w64 (BitVec.ofInt 64 0), AV.w64 (BitVec.ofInt 64 0)], AV.int .i64 4] = AV.tuple [AV.agg [AV.w64 (paX 32 l), AV.w64 (paY 32 l)], AV.int .i64 (paE 32 l)] := by
    intro h
    refine pc_bad (by omega) ?_
    rw [pa32, if_neg h]
  refine ⟨by decide, by decide, by rw [tx_size]; exact hs, by omega, by omega, inR (by omega) (by omega), fun h => bad fun hb => ?_, fun h => ⟨⟨?_, Nat.zero_le _, by simp⟩, ?_⟩⟩
  · rw [hb.1] at h; exact absurd h (by decide)
  · unfold pcO
    rw [pL_zero]; rfl
  have hlen : (spl 46 l).length = 4 := by
    have : (((spl 46 l).length : Nat) : Int) = 4 := by simpa using h
    omega
  rintro k ⟨hk, hall⟩
  have hN : pN 46 l = (spl 46 l).length := rfl
  have hG : pG 46 l k = (spl 46 l).getD k [] := rfl
  simp only [hN, hG]
  refine ⟨fun hlt => ?_, fun hge => ?_⟩
  · have hk' : k < (spl 46 l).length := by have := of_decide_eq_true hlt; omega
    have hsz := part_size hk' hs
    refine ⟨⟨by omega, by omega⟩, read_str hk', by rw [tx_size]; exact hsz, by decide, ⟨by omega, by omega⟩, read_str hk', by rw [tx_size]; exact hsz, fun hno => bad fun hb => ?_, fun hyes => ?_⟩
    · have hno : ¬ r4B ((spl 46 l).getD k []) = true := by
        have hno : (!numOK ((spl 46 l).getD k []) 255) = true := hno
        unfold r4B
        simpa using hno
      exact hno (List.all_eq_true.1 hb.2 _ (part_mem hk'))
    have hB : r4B ((spl 46 l).getD k []) = true := by
      have hyes : (!numOK ((spl 46 l).getD k []) 255) = false := hyes
      unfold r4B
      simpa using hyes
    have hval : ((vs4 l).getD k 0 : Int) = numV ((spl 46 l).getD k []) 255 := by
      have := r4_bound hB
      unfold vs4
      rw [part_val _ hk']
      unfold r4V at this ⊢
      omega
    have hpos : ¬ numV ((spl 46 l).getD k []) 255 < 0 := by
      have := r4_bound hB
      unfold r4V at this
      omega
    refine ⟨decide_eq_false hpos, ⟨?_, Nat.le_refl _⟩, ?_⟩
    · unfold pcN
      have e : ((pV 8 (vs4 l) k 8 : Nat) : Int) = numV ((spl 46 l).getD k []) 255 := by
        unfold pV
        rw [Nat.sub_self, Nat.pow_zero, Nat.div_one]; exact hval
      rw [e]; rfl
    intro j hj
    have hj : j ≤ 8 := hj
    refine ⟨fun h0 => ?_, fun h0 => ?_⟩
    · have h0 : 1 ≤ j := by have := of_decide_eq_true h0; omega
      have hi : Int.toNat (8 * (k : Int) + ((j : Int) - 1)) = 8 * k + (j - 1) := by omega
      have hwr := pL_writes (bits := 8) (vs := vs4 l) (k := k) h0 hj (by omega)
      have hfi := pL_fits (bits := 8) (vs := vs4 l) (k := k) (j := j) (i := 8 * k + (j - 1)) (v := (Int.tmod ((pV 8 (vs4 l) k j : Nat) : Int) 2 == 1)) (by omega)
      rw [hi, pV_next h0 hj]
      have hv : pV 8 (vs4 l) k (j - 1) ≤ 1000000 := by
        unfold pV
        refine Nat.le_trans (Nat.div_le_self _ _) ?_
        have e := hval
        have := r4_bound hB
        unfold vs4 at e ⊢
        rw [part_val _ hk'] at e ⊢
        omega
      refine ⟨inR (by omega) (by omega), inR (by omega) (by omega), ⟨by omega, by omega⟩, hfi, hwr, inR (by omega) (by omega), inR (by omega) (by omega), j - 1, ?_, by show j - 1 ≤ 8; omega, by omega⟩
      unfold pcN
      rw [show ((j - 1 : Nat) : Int) - 1 = (j : Int) - 1 - 1 from by omega]
      rfl
    · have h0 : j = 0 := by have := of_decide_eq_false h0; omega
      subst h0
      refine ⟨inR (by omega) (by omega), k + 1, ?_, ⟨by omega, part_next hk' hall hB⟩, by omega⟩
      unfold pcO
      rw [pL_next (by unfold vs4; rw [List.length_map]; exact hk')]
      rfl
  · have hk' : k = (spl 46 l).length := by have := of_decide_eq_false hge; omega
    have hv : (vs4 l).length = k := by unfold vs4; rw [List.length_map, hk']
    obtain ⟨e1, e2⟩ := pL_words 8 (vs4 l)
    rw [hv] at e1 e2
    refine ⟨by rw [List.length_map, pL_len]; omega, pL 8 (vs4 l) k 8, by rw [List.drop_zero, List.take_of_length_le (by rw [List.length_map, pL_len]; omega)], pL_len .., ?_⟩
    rw [e1, e2]
    refine pc_good (by omega) ?_
    have hA : (spl 46 l).all r4B = true := by
      rw [hk', List.take_length] at hall
      exact List.all_eq_true.2 hall
    rw [pa32, if_pos ⟨hlen, hA⟩]

theorem pc128_walk (l : List UInt8) (hs : l.length ≤ 1000000) : ∃ hs, run rpaCs Tryd.prog 19 [.int .i64 128, .val (.string (tx l))] [] hs (yields (.v (.tuple [.agg [.w64 (paX 128 l), .w64 (paY 128 l)], .int .i64 (paE 128 l)]))) := by
  refine ⟨pcH6 l (List.map .bool), ?_⟩
  rw [pc6_run]
  have cc : Nat.toUInt8 (Int.toNat 58) = 58 := rfl
  have td : Int.tdiv 128 16 = 8 := rfl
  have nt : Int.toNat 128 = 128 := rfl
  simp only [cc, td, nt, tx_data, rowS_len]
  have bad : ¬ ((spl 58 l).length = 8 ∧ (spl 58 l).all r6B = true) → AV.tuple [AV.agg [AV.w64 (BitVec.ofInt 64 0), AV.w64 (BitVec.ofInt 64 0)], AV.int .i64 4] = AV.tuple [AV.agg [AV.w64 (paX 128 l), AV.w64 (paY 128 l)], AV.int .i64 (paE 128 l)] := by
    intro h
    refine pc_bad (by omega) ?_
    rw [pa128, if_neg h]
  refine ⟨by decide, by decide, by decide, by rw [tx_size]; exact hs, by omega, by omega, inR (by omega) (by omega), fun h => bad fun hb => ?_, fun h => ⟨⟨?_, Nat.zero_le _, by simp⟩, ?_⟩⟩
  · rw [hb.1] at h; exact absurd h (by decide)
  · unfold pcO
    rw [pL_zero]; rfl
  have hlen : (spl 58 l).length = 8 := by
    have : (((spl 58 l).length : Nat) : Int) = 8 := by simpa using h
    omega
  rintro k ⟨hk, hall⟩
  have hN : pN 58 l = (spl 58 l).length := rfl
  have hG : pG 58 l k = (spl 58 l).getD k [] := rfl
  simp only [hN, hG]
  refine ⟨fun hlt => ?_, fun hge => ?_⟩
  · have hk' : k < (spl 58 l).length := by have := of_decide_eq_true hlt; omega
    have hsz := part_size hk' hs
    refine ⟨⟨by omega, by omega⟩, read_str hk', by rw [tx_size]; exact hsz, by decide, fun hno => bad fun hb => ?_, fun hyes => ?_⟩
    · have hno : fourV ((spl 58 l).getD k []) < 0 := of_decide_eq_true hno
      have hB := List.all_eq_true.1 hb.2 _ (part_mem hk')
      unfold fourV at hno
      rw [if_pos hB] at hno
      have := r6_bound hB
      omega
    have hB : r6B ((spl 58 l).getD k []) = true := by
      have hyes : ¬ fourV ((spl 58 l).getD k []) < 0 := of_decide_eq_false hyes
      cases hB : r6B ((spl 58 l).getD k []) with
      | true => rfl
      | false =>
        unfold fourV at hyes
        rw [hB] at hyes
        exact absurd (show (-1 : Int) < 0 by omega) hyes
    have hval : ((vs6 l).getD k 0 : Int) = fourV ((spl 58 l).getD k []) := by
      have := r6_bound hB
      unfold vs6 fourV
      rw [part_val _ hk', if_pos hB]
      omega
    refine ⟨⟨?_, Nat.le_refl _⟩, ?_⟩
    · unfold pcN
      have e : ((pV 16 (vs6 l) k 16 : Nat) : Int) = fourV ((spl 58 l).getD k []) := by
        unfold pV
        rw [Nat.sub_self, Nat.pow_zero, Nat.div_one]; exact hval
      rw [e]; rfl
    intro j hj
    have hj : j ≤ 16 := hj
    refine ⟨fun h0 => ?_, fun h0 => ?_⟩
    · have h0 : 1 ≤ j := by have := of_decide_eq_true h0; omega
      have hi : Int.toNat (16 * (k : Int) + ((j : Int) - 1)) = 16 * k + (j - 1) := by omega
      have hwr := pL_writes (bits := 16) (vs := vs6 l) (k := k) h0 hj (by omega)
      have hfi := pL_fits (bits := 16) (vs := vs6 l) (k := k) (j := j) (i := 16 * k + (j - 1)) (v := (Int.tmod ((pV 16 (vs6 l) k j : Nat) : Int) 2 == 1)) (by omega)
      rw [hi, pV_next h0 hj]
      have hv : pV 16 (vs6 l) k (j - 1) ≤ 1000000 := by
        unfold pV
        refine Nat.le_trans (Nat.div_le_self _ _) ?_
        have e := hval
        have := r6_bound hB
        unfold vs6 at e ⊢
        rw [part_val _ hk'] at e ⊢
        omega
      refine ⟨inR (by omega) (by omega), inR (by omega) (by omega), ⟨by omega, by omega⟩, hfi, hwr, inR (by omega) (by omega), inR (by omega) (by omega), j - 1, ?_, by show j - 1 ≤ 16; omega, by omega⟩
      unfold pcN
      rw [show ((j - 1 : Nat) : Int) - 1 = (j : Int) - 1 - 1 from by omega]
      rfl
    · have h0 : j = 0 := by have := of_decide_eq_false h0; omega
      subst h0
      refine ⟨inR (by omega) (by omega), k + 1, ?_, ⟨by omega, part_next hk' hall hB⟩, by omega⟩
      unfold pcO
      rw [pL_next (by unfold vs6; rw [List.length_map]; exact hk')]
      rfl
  · have hk' : k = (spl 58 l).length := by have := of_decide_eq_false hge; omega
    have hv : (vs6 l).length = k := by unfold vs6; rw [List.length_map, hk']
    obtain ⟨e1, e2⟩ := pL_words 16 (vs6 l)
    rw [hv] at e1 e2
    refine ⟨by rw [List.length_map, pL_len]; omega, pL 16 (vs6 l) k 16, by rw [List.drop_zero, List.take_of_length_le (by rw [List.length_map, pL_len]; omega)], pL_len .., ?_⟩
    rw [e1, e2]
    refine pc_good (by omega) ?_
    have hA : (spl 58 l).all r6B = true := by
      rw [hk', List.take_length] at hall
      exact List.all_eq_true.2 hall
    rw [pa128, if_pos ⟨hlen, hA⟩]

theorem rpa_ok : SpecOK Tryd.prog 19 (genSpec [none, none] paF) := by
  refine genSpec_ok (run_ok (l := rpaCs) rpaCs_ok mixed noNG) fun args R hF => ?_
  unfold paF at hF
  split at hF
  · rename_i w s
    obtain ⟨hs, hR⟩ := hF
    obtain ⟨l, rfl⟩ : ∃ l, s = tx l := ⟨_, (tx_of s).symm⟩
    rw [tx_data] at hR
    rw [tx_size] at hs
    refine ⟨_, hR, rfl, ?_⟩
    by_cases h1 : w = 32
    · subst h1; exact pc32_walk l hs
    · by_cases h2 : w = 128
      · subst h2; exact pc128_walk l hs
      · refine ⟨[.br true, .br true], ?_⟩
        show run rpaCs Tryd.prog _ [.int .i64 w, .val (.string (tx l))] [] _ _
        rw [pcb_run]
        have hp : parseA w l = none := by unfold parseA; rw [if_neg h1, if_neg h2]
        refine ⟨by simpa using h1, by simpa using h2, ?_⟩
        unfold paX paY paE
        rw [hp, if_neg (by omega)]; rfl
  · exact hF.elim

end Go.Proofs.YtkdcajibehpeaaaDoor.L1
