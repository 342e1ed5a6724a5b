/-
  Layer 3: contracts of the document's own split and four.
-/
import Derived.Test.YtkdcajibehpeaaaDoorL3E
import Derived.Test.YtkdcajibehpeaaaDoorM08
namespace Go.Proofs.YtkdcajibehpeaaaDoor.L1
open Go.Sx Go.Sx.M Go.RowKit

/-- Texts, as a row of memory. -/
def rowS (ps : List (List UInt8)) : List AV := ps.map fun t => .val (.string (tx t))

def splF : List Arg → (Res → Prop) → Prop
  | [.v (.val (.string s)), .v (.int .u8 c)], R => s.size ≤ 1000000 ∧ 0 ≤ c ∧ c < 256 ∧ R (.vrow 9 1 (rowS (spl c.toNat.toUInt8 s.data.toList)))
  | _, _ => False

def fourF : List Arg → (Res → Prop) → Prop
  | [.v (.val (.string s))], R => s.size ≤ 1000000 ∧ R (.v (.int .i64 (fourV s.data.toList)))
  | _, _ => False

def spN (c : Int) (l : List UInt8) (k : Nat) : Nat := (spl c.toNat.toUInt8 (l.take k)).length
def spG (c : Int) (l : List UInt8) (k : Nat) : List UInt8 := (spl c.toNat.toUInt8 (l.take k)).getLastD []
def spR (c : Int) (l : List UInt8) (k : Nat) : List (List UInt8) := spl c.toNat.toUInt8 (l.take k)

noncomputable def spSt (F : List (List UInt8) → List AV) (l : List UInt8) (c : Int) (k : Nat) : St :=
  ⟨[.val (.string (tx l)), .int .u8 c, .any, .any, .any, .vsl 0 0 (spN c l k), .int .i64 k, .any, .any, .any, .any, .any, .any, .any, .any, .any, .any, .any, .any, .any, .any, .any, .any, .any, .any, .any, .any, .any, .any, .any, .any, .any, .any, .any, .any, .any, .any, .any, .any, .any], [some ⟨true, 9, 1, true, F (spR c l k)⟩]⟩
def spM0 : Modes := ⟨[1, 1, 0, 0, 0, 1, 2, 0, 0, 0, 0, 0, 0, 0, 0, 0, 0, 0, 0, 0, 0, 0, 0, 0, 0, 0, 0, 0, 0, 0, 0, 0, 0, 0, 0, 0, 0, 0, 0, 0], [0], [2], [5], []⟩
def spM : Modes := ⟨[1, 1, 0, 0, 0, 1, 1, 0, 0, 0, 0, 0, 0, 0, 0, 0, 0, 0, 0, 0, 0, 0, 0, 0, 0, 0, 0, 0, 0, 0, 0, 0, 0, 0, 0, 0, 0, 0, 0, 0], [0], [1], [], []⟩
def spM2 : Modes := ⟨[1, 1, 0, 0, 0, 1, 1, 0, 0, 0, 0, 0, 0, 0, 0, 0, 0, 0, 0, 0, 0, 0, 0, 0, 0, 0, 0, 0, 0, 0, 0, 0, 0, 0, 0, 0, 0, 0, 0, 0], [2], [1], [], []⟩
def spM' : Modes := ⟨[0, 0, 0, 0, 0, 1, 0, 0, 0, 0, 0, 0, 0, 0, 0, 0, 0, 0, 0, 0, 0, 0, 0, 0, 0, 0, 0, 0, 0, 0, 0, 0, 0, 0, 0, 0, 0, 0, 0, 0], [0], [1], [], []⟩
def spI (l : List UInt8) (k : Nat) : Prop := k ≤ l.length

noncomputable def spH (F : List (List UInt8) → List AV) (l : List UInt8) (c : Int) : List Hint := [.linv _ 0 (spSt F l c) (spI l) (fun k => 1000001 - k) spM0 spM spM' (fun _ => []) fun k =>
  [.fork [.dy, rnC l k, .fork [.rows (F (spR c l (k + 1))), .nw, .md spM2] [.nw, .nw, .dy, .cell (.val (.string (tx (spG c l k)))), .nw, .dy, .dy, .dy, .rows (F (spR c l (k + 1))), .nw]] []]]

def foSt (l : List UInt8) (k : Nat) : St :=
  ⟨[.val (.string (tx l)), .any, .any, .int .i64 (valL 16 (l.take k)), .int .i64 k, .any, .any, .any, .any, .any, .any, .any, .any, .any, .any, .any, .any, .any, .any, .any, .any, .any, .any, .any, .any, .any, .any, .any, .any, .any, .any, .any, .any, .any, .any, .any, .any, .any, .any, .any, .any, .any, .any, .any, .any, .any, .any, .any, .any, .any, .any, .any, .any, .any, .any, .any, .any], []⟩
def foM0 : Modes := ⟨[1, 0, 0, 2, 2, 0, 0, 0, 0, 0, 0, 0, 0, 0, 0, 0, 0, 0, 0, 0, 0, 0, 0, 0, 0, 0, 0, 0, 0, 0, 0, 0, 0, 0, 0, 0, 0, 0, 0, 0, 0, 0, 0, 0, 0, 0, 0, 0, 0, 0, 0, 0, 0, 0, 0, 0, 0], [], [], [], []⟩
def foM : Modes := ⟨[1, 0, 0, 1, 1, 0, 0, 0, 0, 0, 0, 0, 0, 0, 0, 0, 0, 0, 0, 0, 0, 0, 0, 0, 0, 0, 0, 0, 0, 0, 0, 0, 0, 0, 0, 0, 0, 0, 0, 0, 0, 0, 0, 0, 0, 0, 0, 0, 0, 0, 0, 0, 0, 0, 0, 0, 0], [], [], [], []⟩
def foM' : Modes := ⟨[1, 0, 1, 1, 0, 0, 0, 0, 0, 0, 0, 0, 0, 0, 0, 0, 0, 0, 0, 0, 0, 0, 0, 0, 0, 0, 0, 0, 0, 0, 0, 0, 0, 0, 0, 0, 0, 0, 0, 0, 0, 0, 0, 0, 0, 0, 0, 0, 0, 0, 0, 0, 0, 0, 0, 0, 0], [], [], [], []⟩
def foI (l : List UInt8) (k : Nat) : Prop := k ≤ l.length ∧ k ≤ 5 ∧ okL 16 (l.take k) = true
def foH (l : List UInt8) : List Hint := [.linv _ 0 (foSt l) (foI l) (fun k => 100 - k) foM0 foM foM' (fun _ => [.fork [] []]) fun k =>
  [.fork [.fork
    [.dy, rnC l k, .fork
      [.dy, rnC l k, .fork
        [.dy, rnC l k, .nw, .dy, rnC l k, .br false, .br false, .nw, .nw, .nw]
        [.dy, rnC l k, .fork [.dy, rnC l k, .fork [.dy, rnC l k, .nw, .nw, .br false, .nw, .nw, .nw] []] []]]
      [.dy, rnC l k, .br false]]
    []] []]]

theorem sp_run (F : List (List UInt8) → List AV) (l : List UInt8) (c : Int) (es : List AV) : run [] Tryd.prog 35 [.val (.string (tx l)), .int .u8 c] [] (spH F l c) (yields (.vrow 9 1 es)) =
    ((Go.Sx.St.mk [Go.Sx.AV.val (Go.Value.string (Go.Sx.M.tx l)), Go.Sx.AV.int Go.IntKind.u8 c, Go.Sx.AV.any, Go.Sx.AV.any, Go.Sx.AV.any, Go.Sx.AV.vsl (0 : Nat) (0 : Nat) (1 : Nat), Go.Sx.AV.int Go.IntKind.i64 (0 : Int), Go.Sx.AV.any, Go.Sx.AV.any, Go.Sx.AV.any, Go.Sx.AV.any, Go.Sx.AV.any, Go.Sx.AV.any, Go.Sx.AV.any, Go.Sx.AV.any, Go.Sx.AV.any, Go.Sx.AV.any, Go.Sx.AV.any, Go.Sx.AV.any, Go.Sx.AV.any, Go.Sx.AV.any, Go.Sx.AV.any, Go.Sx.AV.any, Go.Sx.AV.any, Go.Sx.AV.any, Go.Sx.AV.any, Go.Sx.AV.any, Go.Sx.AV.any, Go.Sx.AV.any, Go.Sx.AV.any, Go.Sx.AV.any, Go.Sx.AV.any, Go.Sx.AV.any, Go.Sx.AV.any, Go.Sx.AV.any, Go.Sx.AV.any, Go.Sx.AV.any, Go.Sx.AV.any, Go.Sx.AV.any, Go.Sx.AV.any] [Option.some (Go.Sx.Blk.mk Bool.true (nat_lit 9) (1 : Nat) Bool.true [Go.Sx.AV.val (Go.Value.string (Go.Sx.bstr []))])] = Go.Proofs.YtkdcajibehpeaaaDoor.L1.spSt F l c (0 : Nat) ∧ Go.Proofs.YtkdcajibehpeaaaDoor.L1.spI l (0 : Nat)) ∧ ∀ (p : Nat), Go.Proofs.YtkdcajibehpeaaaDoor.L1.spI l p → (Decidable.decide ((↑p : Int) < (↑(ByteArray.size (Go.Sx.M.tx l)) : Int)) = Bool.true → ((0 : Int) ≤ (↑p : Int) ∧ (↑p : Int) < (↑(ByteArray.size (Go.Sx.M.tx l)) : Int)) ∧ Option.map (fun (u : UInt8) => (↑(UInt8.toNat u) : Int)) (Go.Sx.M.tx l)[Int.toNat (↑p : Int)]? = Option.some (↑(UInt8.toNat (List.getD l p (0 : UInt8))) : Int) ∧ (((↑(UInt8.toNat (List.getD l p (0 : UInt8))) : Int) == c) = Bool.true → ((Go.Proofs.YtkdcajibehpeaaaDoor.L1.spN c l p + (1 : Nat)) * (16 : Nat) ≤ (140737488355328 : Nat) ∧ Go.Proofs.YtkdcajibehpeaaaDoor.L1.spN c l p + (1 : Nat) ≤ (9223372036854775807 : Nat) ∧ (0 : Nat) + (1 : Nat) ≤ List.length [Go.Sx.AV.val (Go.Value.string (Go.Sx.bstr []))] ∧ Go.Proofs.YtkdcajibehpeaaaDoor.L1.spN c l p ≤ List.length (F (Go.Proofs.YtkdcajibehpeaaaDoor.L1.spR c l p))) ∧ List.take (Go.Proofs.YtkdcajibehpeaaaDoor.L1.spN c l p) (F (Go.Proofs.YtkdcajibehpeaaaDoor.L1.spR c l p)) ++ [Go.Sx.AV.val (Go.Value.string (Go.Sx.bstr []))] = F (Go.Proofs.YtkdcajibehpeaaaDoor.L1.spR c l (p + (1 : Nat))) ∧ Go.Sx.inRange Go.IntKind.i64 ((↑p : Int) + (1 : Int)) ∧ ∃ (p' : Nat), Go.Sx.St.mk [Go.Sx.AV.val (Go.Value.string (Go.Sx.M.tx l)), Go.Sx.AV.int Go.IntKind.u8 c, Go.Sx.AV.any, Go.Sx.AV.any, Go.Sx.AV.any, Go.Sx.AV.vsl (0 : Nat) (0 : Nat) (Go.Proofs.YtkdcajibehpeaaaDoor.L1.spN c l p + (1 : Nat)), Go.Sx.AV.int Go.IntKind.i64 ((↑p : Int) + (1 : Int)), Go.Sx.AV.any, Go.Sx.AV.any, Go.Sx.AV.any, Go.Sx.AV.any, Go.Sx.AV.any, Go.Sx.AV.any, Go.Sx.AV.any, Go.Sx.AV.any, Go.Sx.AV.any, Go.Sx.AV.any, Go.Sx.AV.any, Go.Sx.AV.any, Go.Sx.AV.any, Go.Sx.AV.any, Go.Sx.AV.any, Go.Sx.AV.any, Go.Sx.AV.any, Go.Sx.AV.any, Go.Sx.AV.any, Go.Sx.AV.any, Go.Sx.AV.any, Go.Sx.AV.any, Go.Sx.AV.any, Go.Sx.AV.any, Go.Sx.AV.any, Go.Sx.AV.any, Go.Sx.AV.any, Go.Sx.AV.any, Go.Sx.AV.any, Go.Sx.AV.any, Go.Sx.AV.any, Go.Sx.AV.any, Go.Sx.AV.any] [Option.some (Go.Sx.Blk.mk Bool.true (9 : Nat) (1 : Nat) Bool.true (F (Go.Proofs.YtkdcajibehpeaaaDoor.L1.spR c l (p + (1 : Nat)))))] = Go.Proofs.YtkdcajibehpeaaaDoor.L1.spSt F l c p' ∧ Go.Proofs.YtkdcajibehpeaaaDoor.L1.spI l p' ∧ (1000001 : Nat) - p' < (1000001 : Nat) - p) ∧ (((↑(UInt8.toNat (List.getD l p (0 : UInt8))) : Int) == c) = Bool.false → Go.Sx.inRange Go.IntKind.i64 ((↑(Go.Proofs.YtkdcajibehpeaaaDoor.L1.spN c l p) : Int) - (1 : Int)) ∧ Go.Sx.inRange Go.IntKind.i64 ((↑(Go.Proofs.YtkdcajibehpeaaaDoor.L1.spN c l p) : Int) - (1 : Int)) ∧ ((0 : Int) ≤ (↑(Go.Proofs.YtkdcajibehpeaaaDoor.L1.spN c l p) : Int) - (1 : Int) ∧ (↑(Go.Proofs.YtkdcajibehpeaaaDoor.L1.spN c l p) : Int) - (1 : Int) < (↑(Go.Proofs.YtkdcajibehpeaaaDoor.L1.spN c l p) : Int)) ∧ Go.Sx.Blk.read Go.Proofs.Tryd.prog (Go.Sx.Blk.mk Bool.true (9 : Go.TypeId) (1 : Nat) Bool.true (F (Go.Proofs.YtkdcajibehpeaaaDoor.L1.spR c l p))) (9 : Nat) ((0 : Nat) + Int.toNat ((↑(Go.Proofs.YtkdcajibehpeaaaDoor.L1.spN c l p) : Int) - (1 : Int))) (0 : Nat) = Option.some (Go.Sx.AV.val (Go.Value.string (Go.Sx.M.tx (Go.Proofs.YtkdcajibehpeaaaDoor.L1.spG c l p)))) ∧ Go.Sx.inRange Go.IntKind.i64 ((↑p : Int) + (1 : Int)) ∧ ((0 : Int) ≤ (↑p : Int) + (1 : Int) ∧ (↑p : Int) + (1 : Int) < (↑(ByteArray.size (Go.Sx.M.tx l) + (1 : Nat)) : Int)) ∧ ((0 : Int) ≤ (↑p : Int) ∧ (↑p : Int) < (↑(Int.toNat ((↑p : Int) + (1 : Int)) + (1 : Nat)) : Int)) ∧ ByteArray.size (Go.Sx.M.tx (Go.Proofs.YtkdcajibehpeaaaDoor.L1.spG c l p)) + ByteArray.size (ByteArray.extract (Go.Sx.M.tx l) (Int.toNat (↑p : Int)) (Int.toNat ((↑p : Int) + (1 : Int)))) ≤ (9223372036854775807 : Nat) ∧ ((0 : Int) ≤ (↑(Go.Proofs.YtkdcajibehpeaaaDoor.L1.spN c l p) : Int) - (1 : Int) ∧ (↑(Go.Proofs.YtkdcajibehpeaaaDoor.L1.spN c l p) : Int) - (1 : Int) < (↑(Go.Proofs.YtkdcajibehpeaaaDoor.L1.spN c l p) : Int)) ∧ Go.Sx.Blk.fits (Go.Sx.Blk.mk Bool.true (9 : Go.TypeId) (1 : Nat) Bool.true (F (Go.Proofs.YtkdcajibehpeaaaDoor.L1.spR c l p))) ((0 : Nat) + Int.toNat ((↑(Go.Proofs.YtkdcajibehpeaaaDoor.L1.spN c l p) : Int) - (1 : Int))) (0 : Nat) (Go.Sx.AV.val (Go.Value.string (Go.Sx.M.tx (Go.Proofs.YtkdcajibehpeaaaDoor.L1.spG c l p) ++ ByteArray.extract (Go.Sx.M.tx l) (Int.toNat (↑p : Int)) (Int.toNat ((↑p : Int) + (1 : Int)))))) = Bool.true ∧ Go.Sx.Blk.writes (Go.Sx.Blk.mk Bool.true (9 : Go.TypeId) (1 : Nat) Bool.true (F (Go.Proofs.YtkdcajibehpeaaaDoor.L1.spR c l p))) ((0 : Nat) + Int.toNat ((↑(Go.Proofs.YtkdcajibehpeaaaDoor.L1.spN c l p) : Int) - (1 : Int))) (0 : Nat) (Go.Sx.AV.val (Go.Value.string (Go.Sx.M.tx (Go.Proofs.YtkdcajibehpeaaaDoor.L1.spG c l p) ++ ByteArray.extract (Go.Sx.M.tx l) (Int.toNat (↑p : Int)) (Int.toNat ((↑p : Int) + (1 : Int)))))) (F (Go.Proofs.YtkdcajibehpeaaaDoor.L1.spR c l (p + (1 : Nat)))) ∧ Go.Sx.inRange Go.IntKind.i64 ((↑p : Int) + (1 : Int)) ∧ ∃ (p' : Nat), Go.Sx.St.mk [Go.Sx.AV.val (Go.Value.string (Go.Sx.M.tx l)), Go.Sx.AV.int Go.IntKind.u8 c, Go.Sx.AV.any, Go.Sx.AV.any, Go.Sx.AV.any, Go.Sx.AV.vsl (0 : Nat) (0 : Nat) (Go.Proofs.YtkdcajibehpeaaaDoor.L1.spN c l p), Go.Sx.AV.int Go.IntKind.i64 ((↑p : Int) + (1 : Int)), Go.Sx.AV.any, Go.Sx.AV.any, Go.Sx.AV.any, Go.Sx.AV.any, Go.Sx.AV.any, Go.Sx.AV.any, Go.Sx.AV.any, Go.Sx.AV.any, Go.Sx.AV.any, Go.Sx.AV.any, Go.Sx.AV.any, Go.Sx.AV.any, Go.Sx.AV.any, Go.Sx.AV.any, Go.Sx.AV.any, Go.Sx.AV.any, Go.Sx.AV.any, Go.Sx.AV.any, Go.Sx.AV.any, Go.Sx.AV.any, Go.Sx.AV.any, Go.Sx.AV.any, Go.Sx.AV.any, Go.Sx.AV.any, Go.Sx.AV.any, Go.Sx.AV.any, Go.Sx.AV.any, Go.Sx.AV.any, Go.Sx.AV.any, Go.Sx.AV.any, Go.Sx.AV.any, Go.Sx.AV.any, Go.Sx.AV.any] [Option.some (Go.Sx.Blk.mk Bool.true (nat_lit 9) (1 : Nat) Bool.true (F (Go.Proofs.YtkdcajibehpeaaaDoor.L1.spR c l (p + (1 : Nat)))))] = Go.Proofs.YtkdcajibehpeaaaDoor.L1.spSt F l c p' ∧ Go.Proofs.YtkdcajibehpeaaaDoor.L1.spI l p' ∧ (1000001 : Nat) - p' < (1000001 : Nat) - p)) ∧ (Decidable.decide ((↑p : Int) < (↑(ByteArray.size (Go.Sx.M.tx l)) : Int)) = Bool.false → Go.Proofs.YtkdcajibehpeaaaDoor.L1.spN c l p = List.length es ∧ Option.some (Go.Sx.Blk.mk Bool.true (9 : Go.TypeId) (1 : Nat) Bool.true (F (Go.Proofs.YtkdcajibehpeaaaDoor.L1.spR c l p))) = Option.some (Go.Sx.Blk.mk Bool.true (9 : Go.TypeId) (1 : Nat) Bool.true es))) := by kernel_rfl

theorem fo_run (l : List UInt8) (r : AV) : run [] Tryd.prog 36 [.val (.string (tx l))] [] (foH l) (yields (.v r)) =
    ((Go.Sx.St.mk [Go.Sx.AV.val (Go.Value.string (Go.Sx.M.tx l)), Go.Sx.AV.any, Go.Sx.AV.any, Go.Sx.AV.int Go.IntKind.i64 (0 : Int), Go.Sx.AV.int Go.IntKind.i64 (0 : Int), Go.Sx.AV.any, Go.Sx.AV.any, Go.Sx.AV.any, Go.Sx.AV.any, Go.Sx.AV.any, Go.Sx.AV.any, Go.Sx.AV.any, Go.Sx.AV.any, Go.Sx.AV.any, Go.Sx.AV.any, Go.Sx.AV.any, Go.Sx.AV.any, Go.Sx.AV.any, Go.Sx.AV.any, Go.Sx.AV.any, Go.Sx.AV.any, Go.Sx.AV.any, Go.Sx.AV.any, Go.Sx.AV.any, Go.Sx.AV.any, Go.Sx.AV.any, Go.Sx.AV.any, Go.Sx.AV.any, Go.Sx.AV.any, Go.Sx.AV.any, Go.Sx.AV.any, Go.Sx.AV.any, Go.Sx.AV.any, Go.Sx.AV.any, Go.Sx.AV.any, Go.Sx.AV.any, Go.Sx.AV.any, Go.Sx.AV.any, Go.Sx.AV.any, Go.Sx.AV.any, Go.Sx.AV.any, Go.Sx.AV.any, Go.Sx.AV.any, Go.Sx.AV.any, Go.Sx.AV.any, Go.Sx.AV.any, Go.Sx.AV.any, Go.Sx.AV.any, Go.Sx.AV.any, Go.Sx.AV.any, Go.Sx.AV.any, Go.Sx.AV.any, Go.Sx.AV.any, Go.Sx.AV.any, Go.Sx.AV.any, Go.Sx.AV.any, Go.Sx.AV.any] [] = Go.Proofs.YtkdcajibehpeaaaDoor.L1.foSt l (0 : Nat) ∧ Go.Proofs.YtkdcajibehpeaaaDoor.L1.foI l (0 : Nat)) ∧ ∀ (p : Nat), Go.Proofs.YtkdcajibehpeaaaDoor.L1.foI l p → (Decidable.decide ((↑p : Int) < (↑(ByteArray.size (Go.Sx.M.tx l)) : Int)) = Bool.true → (Decidable.decide ((↑p : Int) < (5 : Int)) = Bool.true → ((0 : Int) ≤ (↑p : Int) ∧ (↑p : Int) < (↑(ByteArray.size (Go.Sx.M.tx l)) : Int)) ∧ Option.map (fun (u : UInt8) => (↑(UInt8.toNat u) : Int)) (Go.Sx.M.tx l)[Int.toNat (↑p : Int)]? = Option.some (↑(UInt8.toNat (List.getD l p (0 : UInt8))) : Int) ∧ (Decidable.decide ((↑(UInt8.toNat (List.getD l p (0 : UInt8))) : Int) ≥ (48 : Int)) = Bool.true → ((0 : Int) ≤ (↑p : Int) ∧ (↑p : Int) < (↑(ByteArray.size (Go.Sx.M.tx l)) : Int)) ∧ Option.map (fun (u : UInt8) => (↑(UInt8.toNat u) : Int)) (Go.Sx.M.tx l)[Int.toNat (↑p : Int)]? = Option.some (↑(UInt8.toNat (List.getD l p (0 : UInt8))) : Int) ∧ (Decidable.decide ((↑(UInt8.toNat (List.getD l p (0 : UInt8))) : Int) ≤ (57 : Int)) = Bool.true → ((0 : Int) ≤ (↑p : Int) ∧ (↑p : Int) < (↑(ByteArray.size (Go.Sx.M.tx l)) : Int)) ∧ Option.map (fun (u : UInt8) => (↑(UInt8.toNat u) : Int)) (Go.Sx.M.tx l)[Int.toNat (↑p : Int)]? = Option.some (↑(UInt8.toNat (List.getD l p (0 : UInt8))) : Int) ∧ Go.Sx.inRange Go.IntKind.u8 ((↑(UInt8.toNat (List.getD l p (0 : UInt8))) : Int) - (48 : Int)) ∧ ((0 : Int) ≤ (↑p : Int) ∧ (↑p : Int) < (↑(ByteArray.size (Go.Sx.M.tx l)) : Int)) ∧ Option.map (fun (u : UInt8) => (↑(UInt8.toNat u) : Int)) (Go.Sx.M.tx l)[Int.toNat (↑p : Int)]? = Option.some (↑(UInt8.toNat (List.getD l p (0 : UInt8))) : Int) ∧ Decidable.decide ((↑(UInt8.toNat (List.getD l p (0 : UInt8))) : Int) ≥ (97 : Int)) = Bool.false ∧ Decidable.decide (Go.IntKind.wrap Go.IntKind.i64 ((↑(UInt8.toNat (List.getD l p (0 : UInt8))) : Int) - (48 : Int)) < (0 : Int)) = Bool.false ∧ Go.Sx.inRange Go.IntKind.i64 (Go.Sx.M.valL (16 : Nat) (List.take p l) * (16 : Int)) ∧ Go.Sx.inRange Go.IntKind.i64 (Go.Sx.M.valL (16 : Nat) (List.take p l) * (16 : Int) + Go.IntKind.wrap Go.IntKind.i64 ((↑(UInt8.toNat (List.getD l p (0 : UInt8))) : Int) - (48 : Int))) ∧ Go.Sx.inRange Go.IntKind.i64 ((↑p : Int) + (1 : Int)) ∧ ∃ (p' : Nat), Go.Sx.St.mk [Go.Sx.AV.val (Go.Value.string (Go.Sx.M.tx l)), Go.Sx.AV.any, Go.Sx.AV.any, Go.Sx.AV.int Go.IntKind.i64 (Go.Sx.M.valL (16 : Nat) (List.take p l) * (16 : Int) + Go.IntKind.wrap Go.IntKind.i64 ((↑(UInt8.toNat (List.getD l p (0 : UInt8))) : Int) - (48 : Int))), Go.Sx.AV.int Go.IntKind.i64 ((↑p : Int) + (1 : Int)), Go.Sx.AV.any, Go.Sx.AV.any, Go.Sx.AV.any, Go.Sx.AV.any, Go.Sx.AV.any, Go.Sx.AV.any, Go.Sx.AV.any, Go.Sx.AV.any, Go.Sx.AV.any, Go.Sx.AV.any, Go.Sx.AV.any, Go.Sx.AV.any, Go.Sx.AV.any, Go.Sx.AV.any, Go.Sx.AV.any, Go.Sx.AV.any, Go.Sx.AV.any, Go.Sx.AV.any, Go.Sx.AV.any, Go.Sx.AV.any, Go.Sx.AV.any, Go.Sx.AV.any, Go.Sx.AV.any, Go.Sx.AV.any, Go.Sx.AV.any, Go.Sx.AV.any, Go.Sx.AV.any, Go.Sx.AV.any, Go.Sx.AV.any, Go.Sx.AV.any, Go.Sx.AV.any, Go.Sx.AV.any, Go.Sx.AV.any, Go.Sx.AV.any, Go.Sx.AV.any, Go.Sx.AV.any, Go.Sx.AV.any, Go.Sx.AV.any, Go.Sx.AV.any, Go.Sx.AV.any, Go.Sx.AV.any, Go.Sx.AV.any, Go.Sx.AV.any, Go.Sx.AV.any, Go.Sx.AV.any, Go.Sx.AV.any, Go.Sx.AV.any, Go.Sx.AV.any, Go.Sx.AV.any, Go.Sx.AV.any, Go.Sx.AV.any, Go.Sx.AV.any] [] = Go.Proofs.YtkdcajibehpeaaaDoor.L1.foSt l p' ∧ Go.Proofs.YtkdcajibehpeaaaDoor.L1.foI l p' ∧ (100 : Nat) - p' < (100 : Nat) - p) ∧ (Decidable.decide ((↑(UInt8.toNat (List.getD l p (0 : UInt8))) : Int) ≤ (57 : Int)) = Bool.false → ((0 : Int) ≤ (↑p : Int) ∧ (↑p : Int) < (↑(ByteArray.size (Go.Sx.M.tx l)) : Int)) ∧ Option.map (fun (u : UInt8) => (↑(UInt8.toNat u) : Int)) (Go.Sx.M.tx l)[Int.toNat (↑p : Int)]? = Option.some (↑(UInt8.toNat (List.getD l p (0 : UInt8))) : Int) ∧ (Decidable.decide ((↑(UInt8.toNat (List.getD l p (0 : UInt8))) : Int) ≥ (97 : Int)) = Bool.true → ((0 : Int) ≤ (↑p : Int) ∧ (↑p : Int) < (↑(ByteArray.size (Go.Sx.M.tx l)) : Int)) ∧ Option.map (fun (u : UInt8) => (↑(UInt8.toNat u) : Int)) (Go.Sx.M.tx l)[Int.toNat (↑p : Int)]? = Option.some (↑(UInt8.toNat (List.getD l p (0 : UInt8))) : Int) ∧ (Decidable.decide ((↑(UInt8.toNat (List.getD l p (0 : UInt8))) : Int) ≤ (102 : Int)) = Bool.true → ((0 : Int) ≤ (↑p : Int) ∧ (↑p : Int) < (↑(ByteArray.size (Go.Sx.M.tx l)) : Int)) ∧ Option.map (fun (u : UInt8) => (↑(UInt8.toNat u) : Int)) (Go.Sx.M.tx l)[Int.toNat (↑p : Int)]? = Option.some (↑(UInt8.toNat (List.getD l p (0 : UInt8))) : Int) ∧ Go.Sx.inRange Go.IntKind.u8 ((↑(UInt8.toNat (List.getD l p (0 : UInt8))) : Int) - (97 : Int)) ∧ Go.Sx.inRange Go.IntKind.i64 (Go.IntKind.wrap Go.IntKind.i64 ((↑(UInt8.toNat (List.getD l p (0 : UInt8))) : Int) - (97 : Int)) + (10 : Int)) ∧ Decidable.decide (Go.IntKind.wrap Go.IntKind.i64 ((↑(UInt8.toNat (List.getD l p (0 : UInt8))) : Int) - (97 : Int)) + (10 : Int) < (0 : Int)) = Bool.false ∧ Go.Sx.inRange Go.IntKind.i64 (Go.Sx.M.valL (16 : Nat) (List.take p l) * (16 : Int)) ∧ Go.Sx.inRange Go.IntKind.i64 (Go.Sx.M.valL (16 : Nat) (List.take p l) * (16 : Int) + (Go.IntKind.wrap Go.IntKind.i64 ((↑(UInt8.toNat (List.getD l p (0 : UInt8))) : Int) - (97 : Int)) + (10 : Int))) ∧ Go.Sx.inRange Go.IntKind.i64 ((↑p : Int) + (1 : Int)) ∧ ∃ (p' : Nat), Go.Sx.St.mk [Go.Sx.AV.val (Go.Value.string (Go.Sx.M.tx l)), Go.Sx.AV.any, Go.Sx.AV.any, Go.Sx.AV.int Go.IntKind.i64 (Go.Sx.M.valL (16 : Nat) (List.take p l) * (16 : Int) + (Go.IntKind.wrap Go.IntKind.i64 ((↑(UInt8.toNat (List.getD l p (0 : UInt8))) : Int) - (97 : Int)) + (10 : Int))), Go.Sx.AV.int Go.IntKind.i64 ((↑p : Int) + (1 : Int)), Go.Sx.AV.any, Go.Sx.AV.any, Go.Sx.AV.any, Go.Sx.AV.any, Go.Sx.AV.any, Go.Sx.AV.any, Go.Sx.AV.any, Go.Sx.AV.any, Go.Sx.AV.any, Go.Sx.AV.any, Go.Sx.AV.any, Go.Sx.AV.any, Go.Sx.AV.any, Go.Sx.AV.any, Go.Sx.AV.any, Go.Sx.AV.any, Go.Sx.AV.any, Go.Sx.AV.any, Go.Sx.AV.any, Go.Sx.AV.any, Go.Sx.AV.any, Go.Sx.AV.any, Go.Sx.AV.any, Go.Sx.AV.any, Go.Sx.AV.any, Go.Sx.AV.any, Go.Sx.AV.any, Go.Sx.AV.any, Go.Sx.AV.any, Go.Sx.AV.any, Go.Sx.AV.any, Go.Sx.AV.any, Go.Sx.AV.any, Go.Sx.AV.any, Go.Sx.AV.any, Go.Sx.AV.any, Go.Sx.AV.any, Go.Sx.AV.any, Go.Sx.AV.any, Go.Sx.AV.any, Go.Sx.AV.any, Go.Sx.AV.any, Go.Sx.AV.any, Go.Sx.AV.any, Go.Sx.AV.any, Go.Sx.AV.any, Go.Sx.AV.any, Go.Sx.AV.any, Go.Sx.AV.any, Go.Sx.AV.any, Go.Sx.AV.any, Go.Sx.AV.any] [] = Go.Proofs.YtkdcajibehpeaaaDoor.L1.foSt l p' ∧ Go.Proofs.YtkdcajibehpeaaaDoor.L1.foI l p' ∧ (100 : Nat) - p' < (100 : Nat) - p) ∧ (Decidable.decide ((↑(UInt8.toNat (List.getD l p (0 : UInt8))) : Int) ≤ (102 : Int)) = Bool.false → Go.Sx.AV.int Go.IntKind.i64 (-1 : Int) = r)) ∧ (Decidable.decide ((↑(UInt8.toNat (List.getD l p (0 : UInt8))) : Int) ≥ (97 : Int)) = Bool.false → Go.Sx.AV.int Go.IntKind.i64 (-1 : Int) = r))) ∧ (Decidable.decide ((↑(UInt8.toNat (List.getD l p (0 : UInt8))) : Int) ≥ (48 : Int)) = Bool.false → ((0 : Int) ≤ (↑p : Int) ∧ (↑p : Int) < (↑(ByteArray.size (Go.Sx.M.tx l)) : Int)) ∧ Option.map (fun (u : UInt8) => (↑(UInt8.toNat u) : Int)) (Go.Sx.M.tx l)[Int.toNat (↑p : Int)]? = Option.some (↑(UInt8.toNat (List.getD l p (0 : UInt8))) : Int) ∧ Decidable.decide ((↑(UInt8.toNat (List.getD l p (0 : UInt8))) : Int) ≥ (97 : Int)) = Bool.false ∧ Go.Sx.AV.int Go.IntKind.i64 (-1 : Int) = r)) ∧ (Decidable.decide ((↑p : Int) < (5 : Int)) = Bool.false → (((↑(ByteArray.size (Go.Sx.M.tx l)) : Int) != (4 : Int)) = Bool.true → Go.Sx.AV.int Go.IntKind.i64 (-1 : Int) = r) ∧ (((↑(ByteArray.size (Go.Sx.M.tx l)) : Int) != (4 : Int)) = Bool.false → Go.Sx.AV.int Go.IntKind.i64 (Go.Sx.M.valL (16 : Nat) (List.take p l)) = r))) ∧ (Decidable.decide ((↑p : Int) < (↑(ByteArray.size (Go.Sx.M.tx l)) : Int)) = Bool.false → (((↑(ByteArray.size (Go.Sx.M.tx l)) : Int) != (4 : Int)) = Bool.true → Go.Sx.AV.int Go.IntKind.i64 (-1 : Int) = r) ∧ (((↑(ByteArray.size (Go.Sx.M.tx l)) : Int) != (4 : Int)) = Bool.false → Go.Sx.AV.int Go.IntKind.i64 (Go.Sx.M.valL (16 : Nat) (List.take p l)) = r))) := by kernel_rfl

theorem fits_one {w fl : Bool} {ty : TypeId} {es : List AV} {i : Nat} {e v : AV} (he : es[i]? = some e) (h1 : fitElem e 0 v = true) : (Blk.mk w ty 1 fl es).fits (0 + i) 0 v = true := by
  unfold Blk.fits
  rw [Nat.zero_add, he]
  exact h1

theorem writes_one {w fl : Bool} {ty : TypeId} {es es' : List AV} {i : Nat} {e v : AV} (he : es[i]? = some e) (h1 : wrElem e 0 v = v) (h : es.set i v = es') : (Blk.mk w ty 1 fl es).writes (0 + i) 0 v es' := by
  unfold Blk.writes Blk.write
  dsimp only
  rw [Nat.zero_add, he]
  dsimp only
  rw [h1]
  exact h

theorem rowS_len (ps : List (List UInt8)) : (rowS ps).length = ps.length := by simp [rowS]
theorem rowS_get {ps : List (List UInt8)} {i : Nat} (h : i < ps.length) : (rowS ps)[i]? = some (.val (.string (tx (ps.getD i [])))) := by
  unfold rowS
  rw [List.getElem?_map, List.getElem?_eq_getElem h, List.getD_eq_getElem?_getD, List.getElem?_eq_getElem h]; rfl

theorem spR_eq (u : UInt8) (l : List UInt8) (k : Nat) : spR ((u.toNat : Nat) : Int) l k = spl u (l.take k) := by unfold spR; rw [u8_back]
theorem spN_eq (u : UInt8) (l : List UInt8) (k : Nat) : spN ((u.toNat : Nat) : Int) l k = (spl u (l.take k)).length := by unfold spN; rw [u8_back]
theorem spG_eq (u : UInt8) (l : List UInt8) (k : Nat) : spG ((u.toNat : Nat) : Int) l k = (spl u (l.take k)).getLastD [] := by unfold spG; rw [u8_back]

theorem read_str {w : Bool} {ps : List (List UInt8)} {i : Nat} (h : i < ps.length) : (Blk.mk w 9 1 true (rowS ps)).read Tryd.prog 9 (0 + i) 0 = some (.val (.string (tx (ps.getD i [])))) :=
  read1 (rowS_get h) (by kernel_rfl)

theorem sp_walk (u : UInt8) (l : List UInt8) (hs : l.length ≤ 1000000) : ∃ hs, run [] Tryd.prog 35 [.val (.string (tx l)), .int .u8 ((u.toNat : Nat) : Int)] [] hs (yields (.vrow 9 1 (rowS (spl u l)))) := by
  refine ⟨spH rowS l ((u.toNat : Nat) : Int), ?_⟩
  rw [sp_run]
  refine ⟨⟨rfl, Nat.zero_le _⟩, ?_⟩
  intro k hk
  have hk : k ≤ l.length := hk
  obtain ⟨p1, p2⟩ := spl_len u _ (l.take k) rfl
  rw [List.length_take] at p2
  simp only [tx_size, tx_get, spR_eq, spN_eq, spG_eq, u8_int]
  refine ⟨fun hlt => ?_, fun hge => ?_⟩
  · have hk' : k < l.length := by simpa using hlt
    have hn : spl u (l.take (k + 1)) = M.step u (spl u (l.take k)) (l.getD k 0) := by rw [take_next hk', spl_snoc]
    have hlen : (spl u (l.take k)).length ≤ k + 1 := by omega
    have st : ∀ x : List (List UInt8), M.step u (spl u (l.take k)) (l.getD k 0) = x → spSt rowS l ((u.toNat : Nat) : Int) (k + 1) =
        ⟨[.val (.string (tx l)), .int .u8 ((u.toNat : Nat) : Int), .any, .any, .any, .vsl 0 0 x.length, .int .i64 ((k + 1 : Nat) : Int), .any, .any, .any, .any, .any, .any, .any, .any, .any, .any, .any, .any, .any, .any, .any, .any, .any, .any, .any, .any, .any, .any, .any, .any, .any, .any, .any, .any, .any, .any, .any, .any, .any], [some ⟨true, 9, 1, true, rowS x⟩]⟩ := by
      intro x hx
      unfold spSt
      rw [spN_eq, spR_eq, hn, hx]
    rw [hn]
    refine ⟨⟨by omega, by omega⟩, map_get hk', fun he => ?_, fun he => ?_⟩
    · have he : l.getD k 0 = u := of_decide_eq_true he
      have e1 : M.step u (spl u (l.take k)) (l.getD k 0) = spl u (l.take k) ++ [[]] := by unfold M.step; rw [if_pos he]
      have s1 := st _ e1
      rw [e1, rowS_len]
      refine ⟨⟨by omega, by omega, by simp, Nat.le_refl _⟩, ?_, inR (by omega) (by omega), k + 1, ?_, by show k + 1 ≤ l.length; omega, by omega⟩
      · rw [List.take_of_length_le (by rw [rowS_len]; omega)]
        simp [rowS]
        rfl
      · rw [s1, List.length_append]; rfl
    · have he : ¬ l.getD k 0 = u := of_decide_eq_false he
      have e1 : M.step u (spl u (l.take k)) (l.getD k 0) = (spl u (l.take k)).dropLast ++ [(spl u (l.take k)).getLastD [] ++ [l.getD k 0]] := by unfold M.step; rw [if_neg he]
      have s1 := st _ e1
      rw [e1]
      obtain ⟨q, t, hq⟩ : ∃ q t, spl u (l.take k) = q ++ [t] := ⟨(spl u (l.take k)).dropLast, (spl u (l.take k)).getLast (by intro h; rw [h] at p1; simp at p1), (List.dropLast_concat_getLast _).symm⟩
      rw [hq] at s1 p1 p2 hlen ⊢
      rw [List.dropLast_concat, List.getLastD_concat] at s1
      rw [List.dropLast_concat, List.getLastD_concat]
      simp only [List.length_append, List.length_cons, List.length_nil] at p2 hlen ⊢
      have hx : tx t ++ ByteArray.extract (tx l) (Int.toNat (k : Int)) (Int.toNat ((k : Int) + 1)) = tx (t ++ [l.getD k 0]) := by
        rw [tx_extract, tx_append, Int.toNat_natCast, show ((k : Int) + 1).toNat = k + 1 from by omega, take_next hk', List.drop_left' (by rw [List.length_take]; omega)]
      have hi : Int.toNat (((q.length + (0 + 1) : Nat) : Int) - 1) = q.length := by omega
      have hg : (rowS (q ++ [t]))[q.length]? = some (.val (.string (tx t))) := by
        rw [rowS_get (by simp)]; simp
      have hsz : (ByteArray.extract (tx l) (Int.toNat (k : Int)) (Int.toNat ((k : Int) + 1))).size ≤ 1 := by
        rw [tx_extract, tx_size, List.length_drop, List.length_take]; omega
      have htl : t.length ≤ 1000000 := by
        have := spl_part u _ (l.take k) rfl t (by rw [hq]; simp)
        rw [List.length_take] at this
        omega
      rw [hi, hx]
      refine ⟨inR (by omega) (by omega), inR (by omega) (by omega), ⟨by omega, by omega⟩, read1 hg (by kernel_rfl), inR (by omega) (by omega), ⟨by omega, by omega⟩, ⟨by omega, by omega⟩, by omega, ⟨by omega, by omega⟩, fits_one hg rfl, writes_one hg rfl ?_, inR (by omega) (by omega), k + 1, ?_, by show k + 1 ≤ l.length; omega, by omega⟩
      · simp [rowS]
      · rw [s1, List.length_append]; rfl
  · have hk' : k = l.length := by
      have : ¬ k < l.length := by simpa using hge
      omega
    rw [hk', List.take_length, rowS_len]
    exact ⟨rfl, rfl⟩

theorem sp_ok : SpecOK Tryd.prog 35 (genSpec [none, none] splF) := by
  refine genSpec_ok none_ok fun args R hF => ?_
  unfold splF at hF
  split at hF
  · rename_i s c
    obtain ⟨hs, h0, h1, hR⟩ := hF
    obtain ⟨l, rfl⟩ : ∃ l, s = tx l := ⟨_, (tx_of s).symm⟩
    obtain ⟨u, rfl⟩ : ∃ u : UInt8, c = ((u.toNat : Nat) : Int) := ⟨UInt8.ofNat c.toNat, by rw [UInt8.toNat_ofNat']; omega⟩
    rw [tx_data, u8_back] at hR
    rw [tx_size] at hs
    exact ⟨_, hR, trivial, sp_walk u l hs⟩
  · exact hF.elim

theorem four_len {l : List UInt8} (h : l.length ≠ 4) : fourV l = -1 := by
  unfold fourV r6B
  rw [decide_eq_false h]; rfl

theorem fo_walk (l : List UInt8) : ∃ hs, run [] Tryd.prog 36 [.val (.string (tx l))] [] hs (yields (.v (.int .i64 (fourV l)))) := by
  refine ⟨foH l, ?_⟩
  rw [fo_run]
  refine ⟨⟨rfl, Nat.zero_le _, Nat.zero_le _, rfl⟩, ?_⟩
  rintro k ⟨hk, hk5, hok⟩
  simp only [tx_size, tx_get]
  have no : k < l.length → ¬ 0 ≤ dgt 16 (l.getD k 0) → AV.int .i64 (-1) = AV.int .i64 (fourV l) := by
    intro hk' hd
    unfold fourV r6B valB
    rw [okL_take hk' (by omega)]; simp
  have nolen : ((l.length : Int) != 4) = true → AV.int .i64 (-1) = AV.int .i64 (fourV l) := by
    intro h
    rw [four_len]
    intro h4
    rw [h4] at h
    exact absurd h (by decide)
  refine ⟨fun hlt => ⟨fun h5 => ?_, fun h5 => ⟨nolen, fun h4 => ?_⟩⟩, fun hge => ⟨nolen, fun h4 => ?_⟩⟩
  · have hk' : k < l.length := by simpa using hlt
    have h5 : k < 5 := by have := of_decide_eq_true h5; omega
    obtain ⟨d1, d2, d3⟩ := hexd_of (l.getD k 0)
    have hub := (l.getD k 0).toNat_lt
    generalize hu : (l.getD k 0).toNat = u at *
    have ix : 0 ≤ (k : Int) ∧ (k : Int) < (l.length : Int) := by omega
    have g := map_get hk'
    rw [hu] at g
    obtain ⟨v0, v1⟩ := valL_small (l := l.take k) (b := 16) (by omega) (by rw [List.length_take]; omega) hok
    have w1 : 48 ≤ u → IntKind.i64.wrap ((u : Int) - 48) = (u : Int) - 48 := fun h => wrap_inRange (inR (by omega) (by omega))
    have w2 : 97 ≤ u → IntKind.i64.wrap ((u : Int) - 97) = (u : Int) - 97 := fun h => wrap_inRange (inR (by omega) (by omega))
    have next : 0 ≤ dgt 16 (l.getD k 0) → okL 16 (l.take (k + 1)) = true := by
      intro h
      rw [take_next hk', okL_snoc, hok, decide_eq_true h]; rfl
    refine ⟨ix, g, fun h48 => ⟨ix, g, fun h57 => ?_, fun h57 => ⟨ix, g, fun h97 => ⟨ix, g, fun h102 => ?_, fun h102 => no hk' ?_⟩, fun h97 => no hk' ?_⟩⟩, fun h48 => ⟨ix, g, ?_, no hk' ?_⟩⟩
    · have h48 : 48 ≤ u := by have := of_decide_eq_true h48; omega
      have h57 : u ≤ 57 := by have := of_decide_eq_true h57; omega
      have hd := d1.2 (.inl ⟨h48, h57⟩)
      have he := d2 h48 h57
      rw [w1 h48]
      refine ⟨ix, g, ⟨by show (0 : Int) ≤ _; omega, by show _ ≤ (255 : Int); omega⟩, ix, g, decide_eq_false (by omega), decide_eq_false (by omega), inR (by omega) (by omega), inR (by omega) (by omega), inR (by omega) (by omega), k + 1, ?_, ⟨by omega, by omega, next hd⟩, by omega⟩
      unfold foSt
      rw [take_next hk', valL_snoc, he]
      rfl
    · have h97 : 97 ≤ u := by have := of_decide_eq_true h97; omega
      have h102 : u ≤ 102 := by have := of_decide_eq_true h102; omega
      have hd := d1.2 (.inr ⟨h97, h102⟩)
      have he := d3 h97 h102
      rw [w2 h97]
      refine ⟨ix, g, ⟨by show (0 : Int) ≤ _; omega, by show _ ≤ (255 : Int); omega⟩, inR (by omega) (by omega), decide_eq_false (by omega), inR (by omega) (by omega), inR (by omega) (by omega), inR (by omega) (by omega), k + 1, ?_, ⟨by omega, by omega, next hd⟩, by omega⟩
      unfold foSt
      rw [take_next hk', valL_snoc, he]
      rfl
    · have := of_decide_eq_false h57
      have := of_decide_eq_false h102
      intro h
      rcases d1.1 h with h | h <;> omega
    · have := of_decide_eq_false h57
      have := of_decide_eq_false h97
      intro h
      rcases d1.1 h with h | h <;> omega
    · have := of_decide_eq_false h48
      exact decide_eq_false (by omega)
    · have := of_decide_eq_false h48
      intro h
      rcases d1.1 h with h | h <;> omega
  · have hk' : k < l.length := by simpa using hlt
    have h5 : ¬ (k : Int) < 5 := of_decide_eq_false h5
    have h4 : l.length = 4 := by simp at h4; omega
    omega
  · have hk' : k = l.length := by
      have : ¬ k < l.length := by simpa using hge
      omega
    have h4 : l.length = 4 := by simp at h4; omega
    rw [hk', List.take_length] at hok ⊢
    unfold fourV r6B r6V valV valB
    rw [hok, h4, if_pos rfl]
    have hne : l ≠ [] := by intro h; rw [h] at h4; simp at h4
    rw [decide_eq_true hne]
    rfl

theorem fo_ok : SpecOK Tryd.prog 36 (genSpec [none] fourF) := by
  refine genSpec_ok none_ok fun args R hF => ?_
  unfold fourF at hF
  split at hF
  · rename_i s
    obtain ⟨hs, hR⟩ := hF
    obtain ⟨l, rfl⟩ : ∃ l, s = tx l := ⟨_, (tx_of s).symm⟩
    rw [tx_data] at hR
    exact ⟨_, hR, rfl, fo_walk l⟩
  · exact hF.elim

end Go.Proofs.YtkdcajibehpeaaaDoor.L1
