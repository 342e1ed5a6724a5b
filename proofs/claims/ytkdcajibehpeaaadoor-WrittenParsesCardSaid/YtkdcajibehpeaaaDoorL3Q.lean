/-
  Layer 3: contracts of the program's Prefix and ParseAddr.
-/
import Derived.Test.YtkdcajibehpeaaaDoorL3A
namespace Go.Proofs.YtkdcajibehpeaaaDoor.L1
open Go.Sx Go.Sx.M Go.RowKit

/-- The text of a prefix that may be. -/
def textP (w : Int) (a b : BitVec 64) (n : Int) : List UInt8 := if rightB w a b n = true then textA w a b ++ [47] ++ Lib.decDigits n.toNat else []

def prefF : List Arg → (Res → Prop) → Prop
  | [.v (.int .i64 w), .v (.agg [.w64 a, .w64 b, .int .i64 n])], R => R (.v (.val (.string (tx (textP w a b n)))))
  | _, _ => False

noncomputable def prefCs : List (FuncId × Sx.Spec) := [(25, genSpec [none, none] rightF), (10, genSpec [none, none] addrF), (33, genSpec [none] itoaF)]

def paF : List Arg → (Res → Prop) → Prop
  | [.v (.int .i64 w), .v (.val (.string s))], R => s.size ≤ 1000000 ∧ R (.v (.tuple [.agg [.w64 (paX w s.data.toList), .w64 (paY w s.data.toList)], .int .i64 (paE w s.data.toList)]))
  | _, _ => False

noncomputable def paCs : List (FuncId × Sx.Spec) := [(34, genSpec [none, none] cutlF), (21, genSpec [none, none] numberF), (38, genSpec [none, none] valueF),
  (47, genSpec [none, none, none, none] wbF)]

abbrev PaS := Nat × BitVec 64 × BitVec 64 × List UInt8

noncomputable def sty4 : AV := .agg [.lit (.int .i64 4), .lit (.int .i64 8), .lit (.string (bstr [46])), .func (.func 33) [] [], .func (.func 40) [] []]
noncomputable def sty6 : AV := .agg [.lit (.int .i64 8), .lit (.int .i64 16), .lit (.string (bstr [58])), .func (.func 41) [] [], .func (.func 42) [] []]

def zeroA : Blk := ⟨true, 24, 2, true, [.agg [.lit (.int .u64 0), .lit (.int .u64 0)]]⟩

noncomputable def paSt (st : AV) (n : Int) (p : PaS) : St :=
  ⟨[.any, .val (.string (tx p.2.2.2)), .ptr 2 0 0 true, .any, .ptr 3 0 0 true, .lit (.bool false), .ptr 4 0 0 true, .any, .any, .any, .any, .any, .any, .any, .any, .lit (.int .i64 n), .int .i64 p.1, .any, .any, .any, .any, .any, .any, .any, .any, .any, .any, .any, .any, .any, .any, .any, .any, .any, .any, .any, .any, .any, .any, .any, .any, .any, .any, .any, .any, .any, .any, .any, .any, .any, .any, .any, .any, .any, .any, .any, .any, .any, .any],
   [some zeroA, none, some ⟨true, 57, 5, false, [st]⟩, some zeroA, some ⟨true, 24, 2, true, [.agg [.w64 p.2.1, .w64 p.2.2.1]]⟩]⟩
def paM0 : Modes := ⟨[0, 1, 1, 0, 1, 1, 1, 0, 0, 0, 0, 0, 0, 0, 0, 1, 2, 0, 0, 0, 0, 0, 0, 0, 0, 0, 0, 0, 0, 0, 0, 0, 0, 0, 0, 0, 0, 0, 0, 0, 0, 0, 0, 0, 0, 0, 0, 0, 0, 0, 0, 0, 0, 0, 0, 0, 0, 0, 0], [0, 1, 2, 3, 4], [1, 0, 1, 1, 2], [], []⟩
def paM : Modes := ⟨[0, 1, 1, 0, 1, 1, 1, 0, 0, 0, 0, 0, 0, 0, 0, 1, 1, 0, 0, 0, 0, 0, 0, 0, 0, 0, 0, 0, 0, 0, 0, 0, 0, 0, 0, 0, 0, 0, 0, 0, 0, 0, 0, 0, 0, 0, 0, 0, 0, 0, 0, 0, 0, 0, 0, 0, 0, 0, 0], [0, 1, 2, 3, 4], [1, 0, 1, 1, 1], [], []⟩
def paM' : Modes := ⟨[0, 0, 0, 0, 1, 1, 1, 0, 0, 0, 0, 0, 0, 0, 0, 0, 0, 0, 0, 0, 0, 0, 0, 0, 0, 0, 0, 0, 0, 0, 0, 0, 0, 0, 0, 0, 0, 0, 0, 0, 0, 0, 0, 0, 0, 0, 0, 0, 0, 0, 0, 0, 0, 0, 0, 0, 0, 0, 0], [0, 1, 2, 3, 4], [1, 0, 0, 1, 1], [], []⟩

def paI (c : UInt8) (rV : List UInt8 → Int) (rB : List UInt8 → Bool) (bits n : Nat) (l : List UInt8) (p : PaS) : Prop :=
  p.1 ≤ n ∧ p.2.2.2.length ≤ 1000000 ∧ pgo c rV rB bits n 0 0#64 0#64 l = pgo c rV rB bits (n - p.1) p.1 p.2.1 p.2.2.1 p.2.2.2

noncomputable def paL4 (l : List UInt8) : List Hint := [.linv _ (0, 0#64, 0#64, l) (paSt sty4 4) (paI 46 r4V r4B 8 4 l) (fun p => 100 - p.1) paM0 paM paM' (fun _ => []) fun _ =>
  [.fork [.fork [] [.fork [] [.nw, .nw]]] []]]
noncomputable def paL6 (l : List UInt8) : List Hint := [.linv _ (0, 0#64, 0#64, l) (paSt sty6 8) (paI 58 r6V r6B 16 8 l) (fun p => 100 - p.1) paM0 paM paM' (fun _ => []) fun _ =>
  [.fork [.fork [] [.fork [] [.fork [] [.nw, .nw]]]] []]]

noncomputable def paH (l : List UInt8) : List Hint := [.fork (.br true :: paL4 l) [.fork [] (.br false :: paL6 l)]]

theorem pref_run (w : Int) (a b : BitVec 64) (n : Int) (r : AV) : run prefCs Tryd.prog 15 [.int .i64 w, .agg [.w64 a, .w64 b, .int .i64 n]] [] [.fork [] []] (yields (.v r)) =
    (((!Go.Proofs.YtkdcajibehpeaaaDoor.L1.rightB w a b n) = Bool.true → Go.Sx.AV.val (Go.Value.string (Go.Sx.bstr [])) = r) ∧ ((!Go.Proofs.YtkdcajibehpeaaaDoor.L1.rightB w a b n) = Bool.false → ByteArray.size (Go.Sx.M.tx (Go.Proofs.YtkdcajibehpeaaaDoor.L1.textA w a b)) + ByteArray.size (Go.Sx.bstr [(47 : Nat)]) ≤ (9223372036854775807 : Nat) ∧ (0 : Int) ≤ n ∧ n ≤ (9223372036854775807 : Int) ∧ ByteArray.size (Go.Sx.M.tx (Go.Proofs.YtkdcajibehpeaaaDoor.L1.textA w a b) ++ Go.Sx.bstr [(47 : Nat)]) + ByteArray.size (Go.Sx.M.tx (Go.Lib.decDigits (Int.toNat n))) ≤ (9223372036854775807 : Nat) ∧ Go.Sx.AV.val (Go.Value.string (Go.Sx.M.tx (Go.Proofs.YtkdcajibehpeaaaDoor.L1.textA w a b) ++ Go.Sx.bstr [(47 : Nat)] ++ Go.Sx.M.tx (Go.Lib.decDigits (Int.toNat n)))) = r)) := by kernel_rfl

theorem pa_run (w : Int) (l : List UInt8) (r : AV) : run paCs Tryd.prog 11 [.int .i64 w, .val (.string (tx l))] [] (paH l) (yields (.v r)) =
    (((w == (32 : Int)) = Bool.true → (w == (32 : Int)) = Bool.true ∧ (Go.Sx.St.mk [Go.Sx.AV.any, Go.Sx.AV.val (Go.Value.string (Go.Sx.M.tx l)), Go.Sx.AV.ptr ((0 : Nat) + (1 : Nat) + (1 : Nat)) (0 : Nat) (0 : Nat) Bool.true, Go.Sx.AV.any, Go.Sx.AV.ptr ((0 : Nat) + (1 : Nat) + (1 : Nat) + (1 : Nat)) (0 : Nat) (0 : Nat) Bool.true, Go.Sx.AV.lit (Go.Value.bool Bool.false), Go.Sx.AV.ptr ((0 : Nat) + (1 : Nat) + (1 : Nat) + (1 : Nat) + (1 : Nat)) (0 : Nat) (0 : Nat) Bool.true, Go.Sx.AV.any, Go.Sx.AV.any, Go.Sx.AV.any, Go.Sx.AV.any, Go.Sx.AV.any, Go.Sx.AV.any, Go.Sx.AV.any, Go.Sx.AV.any, Go.Sx.AV.lit (Go.Value.int Go.IntKind.i64 (4 : Int)), Go.Sx.AV.int Go.IntKind.i64 (0 : Int), Go.Sx.AV.any, Go.Sx.AV.any, Go.Sx.AV.any, Go.Sx.AV.any, Go.Sx.AV.any, Go.Sx.AV.any, Go.Sx.AV.any, Go.Sx.AV.any, Go.Sx.AV.any, Go.Sx.AV.any, Go.Sx.AV.any, Go.Sx.AV.any, Go.Sx.AV.any, Go.Sx.AV.any, Go.Sx.AV.any, Go.Sx.AV.any, Go.Sx.AV.any, Go.Sx.AV.any, Go.Sx.AV.any, Go.Sx.AV.any, Go.Sx.AV.any, Go.Sx.AV.any, Go.Sx.AV.any, Go.Sx.AV.any, Go.Sx.AV.any, Go.Sx.AV.any, Go.Sx.AV.any, Go.Sx.AV.any, Go.Sx.AV.any, Go.Sx.AV.any, Go.Sx.AV.any, Go.Sx.AV.any, Go.Sx.AV.any, Go.Sx.AV.any, Go.Sx.AV.any, Go.Sx.AV.any, Go.Sx.AV.any, Go.Sx.AV.any, Go.Sx.AV.any, Go.Sx.AV.any, Go.Sx.AV.any, Go.Sx.AV.any] [Option.some (Go.Sx.Blk.mk Bool.true (24 : Nat) (2 : Nat) Bool.true [Go.Sx.AV.agg [Go.Sx.AV.lit (Go.Value.int Go.IntKind.u64 (0 : Int)), Go.Sx.AV.lit (Go.Value.int Go.IntKind.u64 (0 : Int))]]), Option.none, Option.some (Go.Sx.Blk.mk Bool.true (nat_lit 57) (5 : Nat) Bool.false [Go.Sx.AV.agg [Go.Sx.AV.lit (Go.Value.int Go.IntKind.i64 (4 : Int)), Go.Sx.AV.lit (Go.Value.int Go.IntKind.i64 (8 : Int)), Go.Sx.AV.lit (Go.Value.string (Go.Sx.bstr [(46 : Nat)])), Go.Sx.AV.func (Go.Fn.func (33 : Nat)) [] [], Go.Sx.AV.func (Go.Fn.func (40 : Nat)) [] []]]), Option.some (Go.Sx.Blk.mk Bool.true (24 : Nat) (2 : Nat) Bool.true [Go.Sx.AV.agg [Go.Sx.AV.lit (Go.Value.int Go.IntKind.u64 (0 : Int)), Go.Sx.AV.lit (Go.Value.int Go.IntKind.u64 (0 : Int))]]), Option.some (Go.Sx.Blk.mk Bool.true (nat_lit 24) (2 : Nat) Bool.true [Go.Sx.AV.agg [Go.Sx.AV.w64 (BitVec.ofInt (64 : Nat) (0 : Int)), Go.Sx.AV.w64 (BitVec.ofInt (64 : Nat) (0 : Int))]])] = Go.Proofs.YtkdcajibehpeaaaDoor.L1.paSt (Go.Sx.AV.agg [Go.Sx.AV.lit (Go.Value.int Go.IntKind.i64 (4 : Int)), Go.Sx.AV.lit (Go.Value.int Go.IntKind.i64 (8 : Int)), Go.Sx.AV.lit (Go.Value.string (Go.Sx.bstr [(46 : Nat)])), Go.Sx.AV.func (Go.Fn.func (33 : Go.FuncId)) [] [], Go.Sx.AV.func (Go.Fn.func (40 : Go.FuncId)) [] []]) (4 : Int) ((0 : Nat), BitVec.ofNat (64 : Nat) (0 : Nat), BitVec.ofNat (64 : Nat) (0 : Nat), l) ∧ Go.Proofs.YtkdcajibehpeaaaDoor.L1.paI (46 : UInt8) Go.Sx.M.r4V Go.Sx.M.r4B (8 : Nat) (4 : Nat) l ((0 : Nat), BitVec.ofNat (64 : Nat) (0 : Nat), BitVec.ofNat (64 : Nat) (0 : Nat), l)) ∧ ∀ (p : Nat × BitVec (64 : Nat) × BitVec (64 : Nat) × List UInt8), Go.Proofs.YtkdcajibehpeaaaDoor.L1.paI (46 : UInt8) Go.Sx.M.r4V Go.Sx.M.r4B (8 : Nat) (4 : Nat) l p → (Decidable.decide ((↑(Prod.fst p) : Int) < (4 : Int)) = Bool.true → ∃ (c : UInt8), Go.Sx.bstr [(46 : Nat)] = Go.Sx.M.tx [c] ∧ ByteArray.size (Go.Sx.M.tx (Prod.snd (Prod.snd p)).2) ≤ (1000000 : Nat) ∧ ((!Go.Sx.M.numOK (Array.toList (ByteArray.data (Go.Sx.M.tx (Prod.fst (Go.Sx.M.cutL c (Array.toList (ByteArray.data (Go.Sx.M.tx (Prod.snd (Prod.snd (Prod.snd p))))))))))) (255 : Int)) = Bool.true → Go.Sx.AV.tuple [Go.Sx.AV.agg [Go.Sx.AV.w64 (BitVec.ofInt (64 : Nat) (0 : Int)), Go.Sx.AV.w64 (BitVec.ofInt (64 : Nat) (0 : Int))], Go.Sx.AV.int Go.IntKind.i64 (4 : Int)] = r) ∧ ((!Go.Sx.M.numOK (Array.toList (ByteArray.data (Go.Sx.M.tx (Prod.fst (Go.Sx.M.cutL c (Array.toList (ByteArray.data (Go.Sx.M.tx (Prod.snd (Prod.snd (Prod.snd p))))))))))) (255 : Int)) = Bool.false → ((Prod.snd (Prod.snd (Go.Sx.M.cutL c (Array.toList (ByteArray.data (Go.Sx.M.tx (Prod.snd (Prod.snd (Prod.snd p)))))))) == ((↑(Prod.fst p) : Int) == Go.IntKind.wrap Go.IntKind.i64 ((4 : Int) - (1 : Int)))) = Bool.true → Go.Sx.AV.tuple [Go.Sx.AV.agg [Go.Sx.AV.w64 (BitVec.ofInt (64 : Nat) (0 : Int)), Go.Sx.AV.w64 (BitVec.ofInt (64 : Nat) (0 : Int))], Go.Sx.AV.int Go.IntKind.i64 (4 : Int)] = r) ∧ ((Prod.snd (Prod.snd (Go.Sx.M.cutL c (Array.toList (ByteArray.data (Go.Sx.M.tx (Prod.snd (Prod.snd (Prod.snd p)))))))) == ((↑(Prod.fst p) : Int) == Go.IntKind.wrap Go.IntKind.i64 ((4 : Int) - (1 : Int)))) = Bool.false → Go.Sx.inRange Go.IntKind.i64 ((↑p.1 : Int) * (8 : Int)) ∧ (0 : Int) ≤ (↑p.1 : Int) * (8 : Int) ∧ (0 : Int) ≤ (8 : Int) ∧ (8 : Int) ≤ (16 : Int) ∧ (↑p.1 : Int) * (8 : Int) + (8 : Int) ≤ (128 : Int) ∧ (0 : Int) ≤ Go.Sx.M.numV (Array.toList (ByteArray.data (Go.Sx.M.tx (Go.Sx.M.cutL c (Array.toList (ByteArray.data (Go.Sx.M.tx (Prod.snd (Prod.snd (Prod.snd p))))))).1))) (255 : Int) ∧ Go.Sx.M.numV (Array.toList (ByteArray.data (Go.Sx.M.tx (Go.Sx.M.cutL c (Array.toList (ByteArray.data (Go.Sx.M.tx (Prod.snd (Prod.snd (Prod.snd p))))))).1))) (255 : Int) < (65536 : Int) ∧ Go.Sx.inRange Go.IntKind.i64 ((↑p.1 : Int) + (1 : Int)) ∧ ∃ (p' : Nat × BitVec (64 : Nat) × BitVec (64 : Nat) × List UInt8), Go.Sx.St.mk [Go.Sx.AV.any, Go.Sx.AV.val (Go.Value.string (Go.Sx.M.tx (Prod.snd (Go.Sx.M.cutL c (Array.toList (ByteArray.data (Go.Sx.M.tx (Prod.snd (Prod.snd (Prod.snd p)))))))).1)), Go.Sx.AV.ptr ((0 : Nat) + (1 : Nat) + (1 : Nat)) (0 : Nat) (0 : Nat) Bool.true, Go.Sx.AV.any, Go.Sx.AV.ptr ((0 : Nat) + (1 : Nat) + (1 : Nat) + (1 : Nat)) (0 : Nat) (0 : Nat) Bool.true, Go.Sx.AV.lit (Go.Value.bool Bool.false), Go.Sx.AV.ptr ((0 : Nat) + (1 : Nat) + (1 : Nat) + (1 : Nat) + (1 : Nat)) (0 : Nat) (0 : Nat) Bool.true, Go.Sx.AV.any, Go.Sx.AV.any, Go.Sx.AV.any, Go.Sx.AV.any, Go.Sx.AV.any, Go.Sx.AV.any, Go.Sx.AV.any, Go.Sx.AV.any, Go.Sx.AV.lit (Go.Value.int Go.IntKind.i64 (4 : Int)), Go.Sx.AV.int Go.IntKind.i64 ((↑p.1 : Int) + (1 : Int)), Go.Sx.AV.any, Go.Sx.AV.any, Go.Sx.AV.any, Go.Sx.AV.any, Go.Sx.AV.any, Go.Sx.AV.any, Go.Sx.AV.any, Go.Sx.AV.any, Go.Sx.AV.any, Go.Sx.AV.any, Go.Sx.AV.any, Go.Sx.AV.any, Go.Sx.AV.any, Go.Sx.AV.any, Go.Sx.AV.any, Go.Sx.AV.any, Go.Sx.AV.any, Go.Sx.AV.any, Go.Sx.AV.any, Go.Sx.AV.any, Go.Sx.AV.any, Go.Sx.AV.any, Go.Sx.AV.any, Go.Sx.AV.any, Go.Sx.AV.any, Go.Sx.AV.any, Go.Sx.AV.any, Go.Sx.AV.any, Go.Sx.AV.any, Go.Sx.AV.any, Go.Sx.AV.any, Go.Sx.AV.any, Go.Sx.AV.any, Go.Sx.AV.any, Go.Sx.AV.any, Go.Sx.AV.any, Go.Sx.AV.any, Go.Sx.AV.any, Go.Sx.AV.any, Go.Sx.AV.any, Go.Sx.AV.any, Go.Sx.AV.any] [Option.some (Go.Sx.Blk.mk Bool.true (24 : Go.TypeId) (2 : Nat) Bool.true [Go.Sx.AV.agg [Go.Sx.AV.lit (Go.Value.int Go.IntKind.u64 (0 : Int)), Go.Sx.AV.lit (Go.Value.int Go.IntKind.u64 (0 : Int))]]), Option.none, Option.some (Go.Sx.Blk.mk Bool.true (nat_lit 57) (5 : Nat) Bool.false [Go.Sx.AV.agg [Go.Sx.AV.lit (Go.Value.int Go.IntKind.i64 (4 : Int)), Go.Sx.AV.lit (Go.Value.int Go.IntKind.i64 (8 : Int)), Go.Sx.AV.lit (Go.Value.string (Go.Sx.bstr [(46 : Nat)])), Go.Sx.AV.func (Go.Fn.func (33 : Go.FuncId)) [] [], Go.Sx.AV.func (Go.Fn.func (40 : Go.FuncId)) [] []]]), Option.some (Go.Sx.Blk.mk Bool.true (24 : Go.TypeId) (2 : Nat) Bool.true [Go.Sx.AV.agg [Go.Sx.AV.lit (Go.Value.int Go.IntKind.u64 (0 : Int)), Go.Sx.AV.lit (Go.Value.int Go.IntKind.u64 (0 : Int))]]), Option.some (Go.Sx.Blk.write (Go.Sx.Blk.mk Bool.true (24 : Go.TypeId) (2 : Nat) Bool.true [Go.Sx.AV.agg [Go.Sx.AV.w64 (Prod.snd p).1, Go.Sx.AV.w64 (Prod.snd (Prod.snd p)).1]]) (0 : Nat) (0 : Nat) (Go.Sx.AV.agg [Go.Sx.AV.w64 (Go.Sx.M.wbX (Prod.snd p).1 (Prod.snd (Prod.snd p)).1 (Int.toNat ((↑p.1 : Int) * (8 : Int))) (Int.toNat (8 : Int)) (Int.toNat (Go.Sx.M.numV (Array.toList (ByteArray.data (Go.Sx.M.tx (Go.Sx.M.cutL c (Array.toList (ByteArray.data (Go.Sx.M.tx (Prod.snd (Prod.snd (Prod.snd p))))))).1))) (255 : Int))) (Int.toNat (8 : Int))), Go.Sx.AV.w64 (Go.Sx.M.wbY (Prod.snd p).1 (Prod.snd (Prod.snd p)).1 (Int.toNat ((↑p.1 : Int) * (8 : Int))) (Int.toNat (8 : Int)) (Int.toNat (Go.Sx.M.numV (Array.toList (ByteArray.data (Go.Sx.M.tx (Go.Sx.M.cutL c (Array.toList (ByteArray.data (Go.Sx.M.tx (Prod.snd (Prod.snd (Prod.snd p))))))).1))) (255 : Int))) (Int.toNat (8 : Int)))]))] = Go.Proofs.YtkdcajibehpeaaaDoor.L1.paSt (Go.Sx.AV.agg [Go.Sx.AV.lit (Go.Value.int Go.IntKind.i64 (4 : Int)), Go.Sx.AV.lit (Go.Value.int Go.IntKind.i64 (8 : Int)), Go.Sx.AV.lit (Go.Value.string (Go.Sx.bstr [(46 : Nat)])), Go.Sx.AV.func (Go.Fn.func (33 : Go.FuncId)) [] [], Go.Sx.AV.func (Go.Fn.func (40 : Go.FuncId)) [] []]) (4 : Int) p' ∧ Go.Proofs.YtkdcajibehpeaaaDoor.L1.paI (46 : UInt8) Go.Sx.M.r4V Go.Sx.M.r4B (8 : Nat) (4 : Nat) l p' ∧ (100 : Nat) - p'.1 < (100 : Nat) - p.1))) ∧ (Decidable.decide ((↑(Prod.fst p) : Int) < (4 : Int)) = Bool.false → Go.Sx.AV.tuple [Go.Sx.AV.agg [Go.Sx.AV.w64 (Prod.snd p).1, Go.Sx.AV.w64 (Prod.snd (Prod.snd p)).1], Go.Sx.AV.int Go.IntKind.i64 (0 : Int)] = r)) ∧ ((w == (32 : Int)) = Bool.false → ((!w == (128 : Int)) = Bool.true → Go.Sx.AV.tuple [Go.Sx.AV.agg [Go.Sx.AV.w64 (BitVec.ofInt (64 : Nat) (0 : Int)), Go.Sx.AV.w64 (BitVec.ofInt (64 : Nat) (0 : Int))], Go.Sx.AV.int Go.IntKind.i64 (1 : Int)] = r) ∧ ((!w == (128 : Int)) = Bool.false → (w == (32 : Int)) = Bool.false ∧ (Go.Sx.St.mk [Go.Sx.AV.any, Go.Sx.AV.val (Go.Value.string (Go.Sx.M.tx l)), Go.Sx.AV.ptr ((0 : Nat) + (1 : Nat) + (1 : Nat)) (0 : Nat) (0 : Nat) Bool.true, Go.Sx.AV.any, Go.Sx.AV.ptr ((0 : Nat) + (1 : Nat) + (1 : Nat) + (1 : Nat)) (0 : Nat) (0 : Nat) Bool.true, Go.Sx.AV.lit (Go.Value.bool Bool.false), Go.Sx.AV.ptr ((0 : Nat) + (1 : Nat) + (1 : Nat) + (1 : Nat) + (1 : Nat)) (0 : Nat) (0 : Nat) Bool.true, Go.Sx.AV.any, Go.Sx.AV.any, Go.Sx.AV.any, Go.Sx.AV.any, Go.Sx.AV.any, Go.Sx.AV.any, Go.Sx.AV.any, Go.Sx.AV.any, Go.Sx.AV.lit (Go.Value.int Go.IntKind.i64 (8 : Int)), Go.Sx.AV.int Go.IntKind.i64 (0 : Int), Go.Sx.AV.any, Go.Sx.AV.any, Go.Sx.AV.any, Go.Sx.AV.any, Go.Sx.AV.any, Go.Sx.AV.any, Go.Sx.AV.any, Go.Sx.AV.any, Go.Sx.AV.any, Go.Sx.AV.any, Go.Sx.AV.any, Go.Sx.AV.any, Go.Sx.AV.any, Go.Sx.AV.any, Go.Sx.AV.any, Go.Sx.AV.any, Go.Sx.AV.any, Go.Sx.AV.any, Go.Sx.AV.any, Go.Sx.AV.any, Go.Sx.AV.any, Go.Sx.AV.any, Go.Sx.AV.any, Go.Sx.AV.any, Go.Sx.AV.any, Go.Sx.AV.any, Go.Sx.AV.any, Go.Sx.AV.any, Go.Sx.AV.any, Go.Sx.AV.any, Go.Sx.AV.any, Go.Sx.AV.any, Go.Sx.AV.any, Go.Sx.AV.any, Go.Sx.AV.any, Go.Sx.AV.any, Go.Sx.AV.any, Go.Sx.AV.any, Go.Sx.AV.any, Go.Sx.AV.any, Go.Sx.AV.any, Go.Sx.AV.any] [Option.some (Go.Sx.Blk.mk Bool.true (24 : Nat) (2 : Nat) Bool.true [Go.Sx.AV.agg [Go.Sx.AV.lit (Go.Value.int Go.IntKind.u64 (0 : Int)), Go.Sx.AV.lit (Go.Value.int Go.IntKind.u64 (0 : Int))]]), Option.none, Option.some (Go.Sx.Blk.mk Bool.true (nat_lit 57) (5 : Nat) Bool.false [Go.Sx.AV.agg [Go.Sx.AV.lit (Go.Value.int Go.IntKind.i64 (8 : Int)), Go.Sx.AV.lit (Go.Value.int Go.IntKind.i64 (16 : Int)), Go.Sx.AV.lit (Go.Value.string (Go.Sx.bstr [(58 : Nat)])), Go.Sx.AV.func (Go.Fn.func (41 : Nat)) [] [], Go.Sx.AV.func (Go.Fn.func (42 : Nat)) [] []]]), Option.some (Go.Sx.Blk.mk Bool.true (24 : Nat) (2 : Nat) Bool.true [Go.Sx.AV.agg [Go.Sx.AV.lit (Go.Value.int Go.IntKind.u64 (0 : Int)), Go.Sx.AV.lit (Go.Value.int Go.IntKind.u64 (0 : Int))]]), Option.some (Go.Sx.Blk.mk Bool.true (nat_lit 24) (2 : Nat) Bool.true [Go.Sx.AV.agg [Go.Sx.AV.w64 (BitVec.ofInt (64 : Nat) (0 : Int)), Go.Sx.AV.w64 (BitVec.ofInt (64 : Nat) (0 : Int))]])] = Go.Proofs.YtkdcajibehpeaaaDoor.L1.paSt (Go.Sx.AV.agg [Go.Sx.AV.lit (Go.Value.int Go.IntKind.i64 (8 : Int)), Go.Sx.AV.lit (Go.Value.int Go.IntKind.i64 (16 : Int)), Go.Sx.AV.lit (Go.Value.string (Go.Sx.bstr [(58 : Nat)])), Go.Sx.AV.func (Go.Fn.func (41 : Go.FuncId)) [] [], Go.Sx.AV.func (Go.Fn.func (42 : Go.FuncId)) [] []]) (8 : Int) ((0 : Nat), BitVec.ofNat (64 : Nat) (0 : Nat), BitVec.ofNat (64 : Nat) (0 : Nat), l) ∧ Go.Proofs.YtkdcajibehpeaaaDoor.L1.paI (58 : UInt8) Go.Sx.M.r6V Go.Sx.M.r6B (16 : Nat) (8 : Nat) l ((0 : Nat), BitVec.ofNat (64 : Nat) (0 : Nat), BitVec.ofNat (64 : Nat) (0 : Nat), l)) ∧ ∀ (p : Nat × BitVec (64 : Nat) × BitVec (64 : Nat) × List UInt8), Go.Proofs.YtkdcajibehpeaaaDoor.L1.paI (58 : UInt8) Go.Sx.M.r6V Go.Sx.M.r6B (16 : Nat) (8 : Nat) l p → (Decidable.decide ((↑(Prod.fst p) : Int) < (8 : Int)) = Bool.true → ∃ (c : UInt8), Go.Sx.bstr [(58 : Nat)] = Go.Sx.M.tx [c] ∧ ByteArray.size (Go.Sx.M.tx (Prod.snd (Prod.snd p)).2) ≤ (1000000 : Nat) ∧ (((↑(ByteArray.size (Go.Sx.M.tx (Prod.fst (Go.Sx.M.cutL c (Array.toList (ByteArray.data (Go.Sx.M.tx (Prod.snd (Prod.snd (Prod.snd p)))))))))) : Int) != (4 : Int)) = Bool.true → Go.Sx.AV.tuple [Go.Sx.AV.agg [Go.Sx.AV.w64 (BitVec.ofInt (64 : Nat) (0 : Int)), Go.Sx.AV.w64 (BitVec.ofInt (64 : Nat) (0 : Int))], Go.Sx.AV.int Go.IntKind.i64 (4 : Int)] = r) ∧ (((↑(ByteArray.size (Go.Sx.M.tx (Prod.fst (Go.Sx.M.cutL c (Array.toList (ByteArray.data (Go.Sx.M.tx (Prod.snd (Prod.snd (Prod.snd p)))))))))) : Int) != (4 : Int)) = Bool.false → ((16 : Int) = (10 : Int) ∨ (16 : Int) = (16 : Int)) ∧ ByteArray.size (Go.Sx.M.tx (Go.Sx.M.cutL c (Array.toList (ByteArray.data (Go.Sx.M.tx (Prod.snd (Prod.snd (Prod.snd p))))))).1) ≤ (9 : Nat) ∧ ((!Go.Sx.M.valB (Int.toNat (16 : Int)) (Array.toList (ByteArray.data (Go.Sx.M.tx (Prod.fst (Go.Sx.M.cutL c (Array.toList (ByteArray.data (Go.Sx.M.tx (Prod.snd (Prod.snd (Prod.snd p)))))))))))) = Bool.true → Go.Sx.AV.tuple [Go.Sx.AV.agg [Go.Sx.AV.w64 (BitVec.ofInt (64 : Nat) (0 : Int)), Go.Sx.AV.w64 (BitVec.ofInt (64 : Nat) (0 : Int))], Go.Sx.AV.int Go.IntKind.i64 (4 : Int)] = r) ∧ ((!Go.Sx.M.valB (Int.toNat (16 : Int)) (Array.toList (ByteArray.data (Go.Sx.M.tx (Prod.fst (Go.Sx.M.cutL c (Array.toList (ByteArray.data (Go.Sx.M.tx (Prod.snd (Prod.snd (Prod.snd p)))))))))))) = Bool.false → ((Prod.snd (Prod.snd (Go.Sx.M.cutL c (Array.toList (ByteArray.data (Go.Sx.M.tx (Prod.snd (Prod.snd (Prod.snd p)))))))) == ((↑(Prod.fst p) : Int) == Go.IntKind.wrap Go.IntKind.i64 ((8 : Int) - (1 : Int)))) = Bool.true → Go.Sx.AV.tuple [Go.Sx.AV.agg [Go.Sx.AV.w64 (BitVec.ofInt (64 : Nat) (0 : Int)), Go.Sx.AV.w64 (BitVec.ofInt (64 : Nat) (0 : Int))], Go.Sx.AV.int Go.IntKind.i64 (4 : Int)] = r) ∧ ((Prod.snd (Prod.snd (Go.Sx.M.cutL c (Array.toList (ByteArray.data (Go.Sx.M.tx (Prod.snd (Prod.snd (Prod.snd p)))))))) == ((↑(Prod.fst p) : Int) == Go.IntKind.wrap Go.IntKind.i64 ((8 : Int) - (1 : Int)))) = Bool.false → Go.Sx.inRange Go.IntKind.i64 ((↑p.1 : Int) * (16 : Int)) ∧ (0 : Int) ≤ (↑p.1 : Int) * (16 : Int) ∧ (0 : Int) ≤ (16 : Int) ∧ (16 : Int) ≤ (16 : Int) ∧ (↑p.1 : Int) * (16 : Int) + (16 : Int) ≤ (128 : Int) ∧ (0 : Int) ≤ Go.Sx.M.valV (Int.toNat (16 : Int)) (Array.toList (ByteArray.data (Go.Sx.M.tx (Go.Sx.M.cutL c (Array.toList (ByteArray.data (Go.Sx.M.tx (Prod.snd (Prod.snd (Prod.snd p))))))).1))) ∧ Go.Sx.M.valV (Int.toNat (16 : Int)) (Array.toList (ByteArray.data (Go.Sx.M.tx (Go.Sx.M.cutL c (Array.toList (ByteArray.data (Go.Sx.M.tx (Prod.snd (Prod.snd (Prod.snd p))))))).1))) < (65536 : Int) ∧ Go.Sx.inRange Go.IntKind.i64 ((↑p.1 : Int) + (1 : Int)) ∧ ∃ (p' : Nat × BitVec (64 : Nat) × BitVec (64 : Nat) × List UInt8), Go.Sx.St.mk [Go.Sx.AV.any, Go.Sx.AV.val (Go.Value.string (Go.Sx.M.tx (Prod.snd (Go.Sx.M.cutL c (Array.toList (ByteArray.data (Go.Sx.M.tx (Prod.snd (Prod.snd (Prod.snd p)))))))).1)), Go.Sx.AV.ptr ((0 : Nat) + (1 : Nat) + (1 : Nat)) (0 : Nat) (0 : Nat) Bool.true, Go.Sx.AV.any, Go.Sx.AV.ptr ((0 : Nat) + (1 : Nat) + (1 : Nat) + (1 : Nat)) (0 : Nat) (0 : Nat) Bool.true, Go.Sx.AV.lit (Go.Value.bool Bool.false), Go.Sx.AV.ptr ((0 : Nat) + (1 : Nat) + (1 : Nat) + (1 : Nat) + (1 : Nat)) (0 : Nat) (0 : Nat) Bool.true, Go.Sx.AV.any, Go.Sx.AV.any, Go.Sx.AV.any, Go.Sx.AV.any, Go.Sx.AV.any, Go.Sx.AV.any, Go.Sx.AV.any, Go.Sx.AV.any, Go.Sx.AV.lit (Go.Value.int Go.IntKind.i64 (8 : Int)), Go.Sx.AV.int Go.IntKind.i64 ((↑p.1 : Int) + (1 : Int)), Go.Sx.AV.any, Go.Sx.AV.any, Go.Sx.AV.any, Go.Sx.AV.any, Go.Sx.AV.any, Go.Sx.AV.any, Go.Sx.AV.any, Go.Sx.AV.any, Go.Sx.AV.any, Go.Sx.AV.any, Go.Sx.AV.any, Go.Sx.AV.any, Go.Sx.AV.any, Go.Sx.AV.any, Go.Sx.AV.any, Go.Sx.AV.any, Go.Sx.AV.any, Go.Sx.AV.any, Go.Sx.AV.any, Go.Sx.AV.any, Go.Sx.AV.any, Go.Sx.AV.any, Go.Sx.AV.any, Go.Sx.AV.any, Go.Sx.AV.any, Go.Sx.AV.any, Go.Sx.AV.any, Go.Sx.AV.any, Go.Sx.AV.any, Go.Sx.AV.any, Go.Sx.AV.any, Go.Sx.AV.any, Go.Sx.AV.any, Go.Sx.AV.any, Go.Sx.AV.any, Go.Sx.AV.any, Go.Sx.AV.any, Go.Sx.AV.any, Go.Sx.AV.any, Go.Sx.AV.any, Go.Sx.AV.any, Go.Sx.AV.any] [Option.some (Go.Sx.Blk.mk Bool.true (24 : Go.TypeId) (2 : Nat) Bool.true [Go.Sx.AV.agg [Go.Sx.AV.lit (Go.Value.int Go.IntKind.u64 (0 : Int)), Go.Sx.AV.lit (Go.Value.int Go.IntKind.u64 (0 : Int))]]), Option.none, Option.some (Go.Sx.Blk.mk Bool.true (nat_lit 57) (5 : Nat) Bool.false [Go.Sx.AV.agg [Go.Sx.AV.lit (Go.Value.int Go.IntKind.i64 (8 : Int)), Go.Sx.AV.lit (Go.Value.int Go.IntKind.i64 (16 : Int)), Go.Sx.AV.lit (Go.Value.string (Go.Sx.bstr [(58 : Nat)])), Go.Sx.AV.func (Go.Fn.func (41 : Go.FuncId)) [] [], Go.Sx.AV.func (Go.Fn.func (42 : Go.FuncId)) [] []]]), Option.some (Go.Sx.Blk.mk Bool.true (24 : Go.TypeId) (2 : Nat) Bool.true [Go.Sx.AV.agg [Go.Sx.AV.lit (Go.Value.int Go.IntKind.u64 (0 : Int)), Go.Sx.AV.lit (Go.Value.int Go.IntKind.u64 (0 : Int))]]), Option.some (Go.Sx.Blk.write (Go.Sx.Blk.mk Bool.true (24 : Go.TypeId) (2 : Nat) Bool.true [Go.Sx.AV.agg [Go.Sx.AV.w64 (Prod.snd p).1, Go.Sx.AV.w64 (Prod.snd (Prod.snd p)).1]]) (0 : Nat) (0 : Nat) (Go.Sx.AV.agg [Go.Sx.AV.w64 (Go.Sx.M.wbX (Prod.snd p).1 (Prod.snd (Prod.snd p)).1 (Int.toNat ((↑p.1 : Int) * (16 : Int))) (Int.toNat (16 : Int)) (Int.toNat (Go.Sx.M.valV (Int.toNat (16 : Int)) (Array.toList (ByteArray.data (Go.Sx.M.tx (Go.Sx.M.cutL c (Array.toList (ByteArray.data (Go.Sx.M.tx (Prod.snd (Prod.snd (Prod.snd p))))))).1))))) (Int.toNat (16 : Int))), Go.Sx.AV.w64 (Go.Sx.M.wbY (Prod.snd p).1 (Prod.snd (Prod.snd p)).1 (Int.toNat ((↑p.1 : Int) * (16 : Int))) (Int.toNat (16 : Int)) (Int.toNat (Go.Sx.M.valV (Int.toNat (16 : Int)) (Array.toList (ByteArray.data (Go.Sx.M.tx (Go.Sx.M.cutL c (Array.toList (ByteArray.data (Go.Sx.M.tx (Prod.snd (Prod.snd (Prod.snd p))))))).1))))) (Int.toNat (16 : Int)))]))] = Go.Proofs.YtkdcajibehpeaaaDoor.L1.paSt (Go.Sx.AV.agg [Go.Sx.AV.lit (Go.Value.int Go.IntKind.i64 (8 : Int)), Go.Sx.AV.lit (Go.Value.int Go.IntKind.i64 (16 : Int)), Go.Sx.AV.lit (Go.Value.string (Go.Sx.bstr [(58 : Nat)])), Go.Sx.AV.func (Go.Fn.func (41 : Go.FuncId)) [] [], Go.Sx.AV.func (Go.Fn.func (42 : Go.FuncId)) [] []]) (8 : Int) p' ∧ Go.Proofs.YtkdcajibehpeaaaDoor.L1.paI (58 : UInt8) Go.Sx.M.r6V Go.Sx.M.r6B (16 : Nat) (8 : Nat) l p' ∧ (100 : Nat) - p'.1 < (100 : Nat) - p.1)))) ∧ (Decidable.decide ((↑(Prod.fst p) : Int) < (8 : Int)) = Bool.false → Go.Sx.AV.tuple [Go.Sx.AV.agg [Go.Sx.AV.w64 (Prod.snd p).1, Go.Sx.AV.w64 (Prod.snd (Prod.snd p)).1], Go.Sx.AV.int Go.IntKind.i64 (0 : Int)] = r)))) := by kernel_rfl

theorem textA_len (w : Int) (a b : BitVec 64) : (textA w a b).length ≤ 40 := by
  unfold textA
  split
  · split
    · refine Nat.le_trans (join_len [46] (by simp) _ fun x hx => ?_) (by simp)
      simp only [List.mem_map, List.mem_range] at hx
      obtain ⟨k, _, rfl⟩ := hx
      have := dec_len (n := partV (fun i => bitAt a b (8 * k + i)) 8) (Nat.lt_trans (partV_lt _ 8) (by omega))
      omega
    · refine Nat.le_trans (join_len [58] (by simp) _ fun x hx => ?_) (by simp)
      simp only [List.mem_map, List.mem_range] at hx
      obtain ⟨k, _, rfl⟩ := hx
      simp [hex4]
  · simp

theorem right_iff {w : Int} {a b : BitVec 64} {n : Int} (h : rightB w a b n = true) : (w = 32 ∨ w = 128) ∧ 0 ≤ n ∧ n ≤ w ∧ (a &&& mkW n == a && b &&& mkW (n - 64) == b) = true := by
  unfold rightB at h
  rw [Bool.and_eq_true, Bool.and_eq_true, Bool.and_eq_true, Bool.or_eq_true, beq_iff_eq, beq_iff_eq, decide_eq_true_eq, decide_eq_true_eq] at h
  exact h

theorem prefCs_ok : ∀ e ∈ prefCs, SpecOK Tryd.prog e.1 e.2 := by
  intro e he
  simp only [prefCs, List.mem_cons, List.not_mem_nil, or_false] at he
  rcases he with rfl | rfl | rfl
  · exact pright_ok
  · exact addr_ok
  · exact itoa_ok

theorem pref_ok : SpecOK Tryd.prog 15 (genSpec [none, none] prefF) := by
  refine genSpec_ok (run_ok (l := prefCs) prefCs_ok mixed noNG) fun args R hF => ?_
  unfold prefF at hF
  split at hF
  · rename_i w a b n
    refine ⟨_, hF, rfl, [.fork [] []], ?_⟩
    show run prefCs Tryd.prog _ [.int .i64 w, .agg [.w64 a, .w64 b, .int .i64 n]] [] _ _
    rw [pref_run]
    refine ⟨fun h => ?_, fun h => ?_⟩
    · unfold textP
      rw [if_neg (by simpa using h)]; rfl
    · have hr : rightB w a b n = true := by simpa using h
      obtain ⟨h1, h2, h3, _⟩ := right_iff hr
      have h4 := textA_len w a b
      have h5 := dec_len (n := n.toNat) (by omega)
      have b1 : bstr [47] = tx [47] := rfl
      rw [b1, tx_append, tx_append, tx_size, tx_size, tx_size, tx_size]
      refine ⟨by simp; omega, h2, by omega, by simp; omega, ?_⟩
      unfold textP
      rw [if_pos hr]
  · exact hF.elim

theorem cutL_len (c : UInt8) : ∀ l : List UInt8, (cutL c l).2.1.length ≤ l.length
  | [] => Nat.le_refl _
  | b :: l => by
    unfold cutL
    split
    · simp
    · have := cutL_len c l
      simp only [List.length_cons]; omega

theorem paCs_ok : ∀ e ∈ paCs, SpecOK Tryd.prog e.1 e.2 := by
  intro e he
  simp only [paCs, List.mem_cons, List.not_mem_nil, or_false] at he
  rcases he with rfl | rfl | rfl | rfl
  · exact cutl_ok
  · exact number_ok
  · exact value_ok
  · exact wb_ok

theorem pgo_bad {c : UInt8} {rV : List UInt8 → Int} {rB : List UInt8 → Bool} {bits n k : Nat} {a b : BitVec 64} {l : List UInt8} (h : ¬ (rB (cutL c l).1 = true ∧ (cutL c l).2.2 = decide (n ≠ 0))) : pgo c rV rB bits (n + 1) k a b l = none := by
  rw [pgo, if_neg h]

theorem pgo_good {c : UInt8} {rV : List UInt8 → Int} {rB : List UInt8 → Bool} {bits n k : Nat} {a b : BitVec 64} {l : List UInt8} (h : rB (cutL c l).1 = true ∧ (cutL c l).2.2 = decide (n ≠ 0)) :
    pgo c rV rB bits (n + 1) k a b l = pgo c rV rB bits n (k + 1) (wbX a b (k * bits) bits (rV (cutL c l).1).toNat bits) (wbY a b (k * bits) bits (rV (cutL c l).1).toNat bits) (cutL c l).2.1 := by
  rw [pgo, if_pos h]

theorem last_iff {f : Bool} {k n : Nat} {N : Int} (hN : N = k + n) : (f == ((k : Int) == N)) = true ↔ ¬ f = decide (n ≠ 0) := by
  have : ((k : Int) == N) = !decide (n ≠ 0) := by
    by_cases h : n = 0
    · simp [h, hN]
    · simp [h, hN]; omega
  rw [this]
  cases f <;> cases decide (n ≠ 0) <;> simp

theorem pa_ok : SpecOK Tryd.prog 11 (genSpec [none, none] paF) := by
  refine genSpec_ok (run_ok (l := paCs) paCs_ok mixed noNG) fun args R hF => ?_
  unfold paF at hF
  split at hF
  · rename_i w s
    obtain ⟨hs, hR⟩ := hF
    obtain ⟨l, rfl⟩ : ∃ l, s = tx l := ⟨_, (tx_of s).symm⟩
    rw [tx_data] at hR
    rw [tx_size] at hs
    refine ⟨_, hR, rfl, paH l, ?_⟩
    show run paCs Tryd.prog _ [.int .i64 w, .val (.string (tx l))] [] _ _
    rw [pa_run]
    have bad : (w = 32 ∨ w = 128) → parseA w l = none → AV.tuple [AV.agg [AV.w64 (BitVec.ofInt 64 0), AV.w64 (BitVec.ofInt 64 0)], AV.int .i64 4] = AV.tuple [AV.agg [AV.w64 (paX w l), AV.w64 (paY w l)], AV.int .i64 (paE w l)] := by
      intro hw h
      unfold paX paY paE
      rw [h, if_pos hw]; rfl
    have good : ∀ a b, (w = 32 ∨ w = 128) → parseA w l = some (a, b) → AV.tuple [AV.agg [AV.w64 a, AV.w64 b], AV.int .i64 0] = AV.tuple [AV.agg [AV.w64 (paX w l), AV.w64 (paY w l)], AV.int .i64 (paE w l)] := by
      intro a b hw h
      unfold paX paY paE
      rw [h, if_pos hw]
    refine ⟨fun hw => ⟨hw, ⟨rfl, Nat.zero_le _, hs, rfl⟩, ?_⟩, fun hw => ⟨fun hw2 => ?_, fun hw2 => ⟨hw, ⟨rfl, Nat.zero_le _, hs, rfl⟩, ?_⟩⟩⟩
    · have hw : w = 32 := by simpa using hw
      have hp : parseA w l = pgo 46 r4V r4B 8 4 0 0#64 0#64 l := by unfold parseA; rw [if_pos hw]
      rintro ⟨k, a, b, m⟩ ⟨hk, hm, he⟩
      simp only at hk hm he
      simp only [tx_data, tx_size]
      refine ⟨fun hlt => ⟨46, rfl, hm, fun hok => bad (.inl hw) ?_, fun hok => ⟨fun hf => bad (.inl hw) ?_, fun hf => ?_⟩⟩, fun hge => ?_⟩
      · have hlt : k < 4 := by simp at hlt; omega
        rw [hp, he, show 4 - k = (3 - k) + 1 from by omega, pgo_bad fun h => by simp [show numOK (cutL 46 m).1 255 = true from h.1] at hok]
      · have hlt : k < 4 := by simp at hlt; omega
        rw [hp, he, show 4 - k = (3 - k) + 1 from by omega, pgo_bad fun h => (last_iff (n := 3 - k) (N := 3) (by omega)).1 hf h.2]
      · have hlt : k < 4 := by simp at hlt; omega
        have hok : numOK (cutL 46 m).1 255 = true := by simpa using hok
        have hfd : (cutL 46 m).2.2 = decide (3 - k ≠ 0) := by
          cases hd : decide ((cutL 46 m).2.2 = decide (3 - k ≠ 0)) with
          | true => exact of_decide_eq_true hd
          | false =>
            have := (last_iff (f := (cutL 46 m).2.2) (k := k) (n := 3 - k) (N := 3) (by omega)).2 (of_decide_eq_false hd)
            exact absurd (this.symm.trans hf) (by simp)
        have hb := r4_bound (l := (cutL 46 m).1) hok
        unfold r4V at hb
        refine ⟨inR (by omega) (by omega), by omega, by omega, by omega, by omega, by omega, by omega, inR (by omega) (by omega), (k + 1, _, _, (cutL 46 m).2.1), rfl, ⟨by simp only; omega, ?_, ?_⟩, by simp only; omega⟩
        · have := cutL_len 46 m
          simp only; omega
        · simp only
          rw [he, show 4 - k = (3 - k) + 1 from by omega, pgo_good ⟨hok, hfd⟩, show 4 - (k + 1) = 3 - k from by omega, show Int.toNat ((k : Int) * 8) = k * 8 from by omega]
          rfl
      · have hk4 : k = 4 := by simp at hge; omega
        subst hk4
        exact good a b (.inl hw) (by rw [hp, he]; rfl)
    · have h1 : w ≠ 32 := by simpa using hw
      have h2 : w ≠ 128 := by simpa using hw2
      unfold paX paY paE parseA
      rw [if_neg h1, if_neg h2, if_neg (by omega)]
      rfl
    · have hw1 : w ≠ 32 := by simpa using hw
      have hw : w = 128 := by simpa using hw2
      have hp : parseA w l = pgo 58 r6V r6B 16 8 0 0#64 0#64 l := by unfold parseA; rw [if_neg hw1, if_pos hw]
      rintro ⟨k, a, b, m⟩ ⟨hk, hm, he⟩
      simp only at hk hm he
      simp only [tx_data, tx_size, show Int.toNat 16 = 16 from rfl]
      refine ⟨fun hlt => ⟨58, rfl, hm, fun hok => bad (.inr hw) ?_, fun hln => ⟨.inr trivial, ?_, fun hok => bad (.inr hw) ?_, fun hok => ⟨fun hf => bad (.inr hw) ?_, fun hf => ?_⟩⟩⟩, fun hge => ?_⟩
      · have hlt : k < 8 := by simp at hlt; omega
        rw [hp, he, show 8 - k = (7 - k) + 1 from by omega, pgo_bad fun h => ?_]
        have := h.1
        unfold r6B at this
        simp at hok this
        omega
      · simp at hln; omega
      · have hlt : k < 8 := by simp at hlt; omega
        rw [hp, he, show 8 - k = (7 - k) + 1 from by omega, pgo_bad fun h => ?_]
        have := h.1
        unfold r6B at this
        simp at hok
        simp [hok] at this
      · have hlt : k < 8 := by simp at hlt; omega
        rw [hp, he, show 8 - k = (7 - k) + 1 from by omega, pgo_bad fun h => (last_iff (n := 7 - k) (N := 7) (by omega)).1 hf h.2]
      · have hlt : k < 8 := by simp at hlt; omega
        have hl4 : (cutL 58 m).1.length = 4 := by simp at hln; omega
        have hv : valB 16 (cutL 58 m).1 = true := by simpa using hok
        have hok : r6B (cutL 58 m).1 = true := by unfold r6B; rw [hv, decide_eq_true hl4]; rfl
        have hfd : (cutL 58 m).2.2 = decide (7 - k ≠ 0) := by
          cases hd : decide ((cutL 58 m).2.2 = decide (7 - k ≠ 0)) with
          | true => exact of_decide_eq_true hd
          | false =>
            have := (last_iff (f := (cutL 58 m).2.2) (k := k) (n := 7 - k) (N := 7) (by omega)).2 (of_decide_eq_false hd)
            exact absurd (this.symm.trans hf) (by simp)
        have hb := r6_bound hok
        have e6 : r6V (cutL 58 m).1 = valV 16 (cutL 58 m).1 := by unfold r6V; rw [if_pos hl4]
        rw [e6] at hb
        refine ⟨inR (by omega) (by omega), by omega, by omega, by omega, by omega, by omega, by omega, inR (by omega) (by omega), (k + 1, _, _, (cutL 58 m).2.1), rfl, ⟨by simp only; omega, ?_, ?_⟩, by simp only; omega⟩
        · have := cutL_len 58 m
          simp only; omega
        · simp only
          rw [he, show 8 - k = (7 - k) + 1 from by omega, pgo_good ⟨hok, hfd⟩, e6, show 8 - (k + 1) = 7 - k from by omega, show Int.toNat ((k : Int) * 16) = k * 16 from by omega]
          rfl
      · have hk4 : k = 8 := by simp at hge; omega
        subst hk4
        exact good a b (.inr hw) (by rw [hp, he]; rfl)
  · exact hF.elim

end Go.Proofs.YtkdcajibehpeaaaDoor.L1
