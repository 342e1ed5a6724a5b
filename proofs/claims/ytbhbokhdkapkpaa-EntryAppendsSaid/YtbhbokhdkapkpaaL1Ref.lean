/-
  Layer 1: contracts of the document's own functions Bits and Words.
-/
import Derived.Test.YtbhbokhdkapkpaaL1Base
import Derived.Test.YtbhbokhdkapkpaaSxM
import Derived.Test.YtbhbokhdkapkpaaM01
namespace Go.Proofs.Ytbhbokhdkapkpaa.L1
open Go.Sx Go.Sx.M

def pBool : Par := some (4, 1)

/-- Bits: the 128 bits of an address, from the left. -/
def bitsOf (a b : BitVec 64) : List AV := (List.range 128).map fun k => .bool (bitAt a b k)

def bitsF : List Arg → (Res → Prop) → Prop
  | [.v (.agg [.w64 a, .w64 b])], R => R (.row 4 1 (bitsOf a b))
  | _, _ => False

theorem bits_run (a b : BitVec 64) : run [] Try.prog 34 [.agg [.w64 a, .w64 b]] [] [.loop 3, .loop 65, .loop 65] (yields (.row 4 1 (bitsOf a b))) =
    (128 = (bitsOf a b).length ∧ some (Blk.mk true 4 1 true ((List.range 128).map fun k => .bool (bitDiv a b k))) = some (Blk.mk true 4 1 true (bitsOf a b))) := by
  kernel_rfl

theorem bits_ok : SpecOK Try.prog 34 (genSpec [none] bitsF) := by
  refine genSpec_ok none_ok fun l R hF => ?_
  unfold bitsF at hF
  split at hF
  · rename_i a b
    refine ⟨_, hF, trivial, [.loop 3, .loop 65, .loop 65], ?_⟩
    show run [] Try.prog _ [.agg [.w64 a, .w64 b]] [] [.loop 3, .loop 65, .loop 65] _
    rw [bits_run]
    refine ⟨by simp [bitsOf], ?_⟩
    congr 2
    unfold bitsOf
    apply List.map_congr_left
    intro k hk
    rw [bitDiv_eq (by simpa using hk)]
  · exact hF.elim

/-- The two words of a row of bools. -/
def wd (l : List Bool) (o : Nat) (n : Nat) : BitVec 64 := W (fun i => l.getD (o + i) false) n

def wordsSt (l : List Bool) (p : Int × BitVec 64 × BitVec 64) : St := ⟨[.vsl 0 0 128, .any, .ptr 1 0 0 true, .ptr 2 0 0 true, .int .i64 p.1] ++ List.replicate 25 .any,
  [some ⟨false, 4, 1, true, l.map .bool⟩, some ⟨true, 23, 2, true, [.agg [.lit (.int .u64 0), .lit (.int .u64 0)]]⟩, some ⟨true, 23, 2, true, [.agg [.w64 p.2.1, .w64 p.2.2]]⟩]⟩

def wordsM0 : Modes := ⟨[1, 0, 1, 1, 2] ++ List.replicate 25 0, [0, 1, 2], [1, 1, 2], [], []⟩
def wordsM : Modes := ⟨[1, 0, 1, 1, 1] ++ List.replicate 25 0, [0, 1, 2], [1, 1, 1], [], []⟩

def wordsI (l : List Bool) (p : Int × BitVec 64 × BitVec 64) : Prop := 0 ≤ p.1 ∧ p.1 ≤ 128 ∧ p.2.1 = wd l 0 (min p.1.toNat 64) ∧ p.2.2 = wd l 64 (p.1.toNat - 64)

def wordsH (l : List Bool) : List Hint := [.linv _ (0, 0#64, 0#64) (wordsSt l) (wordsI l) (fun p => (200 - p.1).toNat) wordsM0 wordsM wordsM (fun _ => []) fun p =>
  [.split (decide (p.1 < 64))
    [.split (l.getD p.1.toNat false) [.fork [.nw, .nw, .ix 0, .ix 0, .dy, .cell (.bool true), .br true, .nw, .nw, .ix 0, .ix 0, .nw] []] [.fork [.nw, .nw, .ix 0, .ix 0, .dy, .cell (.bool false), .br false, .nw] []]]
    [.split (l.getD p.1.toNat false) [.fork [.nw, .nw, .ix 1, .ix 1, .dy, .cell (.bool true), .br true, .nw, .nw, .ix 1, .ix 1, .nw] []] [.fork [.nw, .nw, .ix 1, .ix 1, .dy, .cell (.bool false), .br false, .nw] []]]]]

theorem words_run (l : List Bool) (r : AV) : run [] Try.prog 35 [.vsl 0 0 128] [some ⟨false, 4, 1, true, l.map .bool⟩] (wordsH l) (yields (.v r)) =
    ((Go.Sx.St.mk [Go.Sx.AV.vsl (0 : Nat) (0 : Nat) (128 : Nat), Go.Sx.AV.any, Go.Sx.AV.ptr ((0 : Nat) + (1 : Nat)) (0 : Nat) (0 : Nat) Bool.true, Go.Sx.AV.ptr ((0 : Nat) + (1 : Nat) + (1 : Nat)) (0 : Nat) (0 : Nat) Bool.true, Go.Sx.AV.int Go.IntKind.i64 (0 : Int), Go.Sx.AV.any, Go.Sx.AV.any, Go.Sx.AV.any, Go.Sx.AV.any, Go.Sx.AV.any, Go.Sx.AV.any, Go.Sx.AV.any, Go.Sx.AV.any, Go.Sx.AV.any, Go.Sx.AV.any, Go.Sx.AV.any, Go.Sx.AV.any, Go.Sx.AV.any, Go.Sx.AV.any, Go.Sx.AV.any, Go.Sx.AV.any, Go.Sx.AV.any, Go.Sx.AV.any, Go.Sx.AV.any, Go.Sx.AV.any, Go.Sx.AV.any, Go.Sx.AV.any, Go.Sx.AV.any, Go.Sx.AV.any, Go.Sx.AV.any] [Option.some (Go.Sx.Blk.mk Bool.false (4 : Go.TypeId) (1 : Nat) Bool.true (List.map Go.Sx.AV.bool l)), Option.some (Go.Sx.Blk.mk Bool.true (23 : Nat) (2 : Nat) Bool.true [Go.Sx.AV.agg (List.map Go.Sx.AV.lit (Array.toList #[Go.Value.int Go.IntKind.u64 (0 : Int), Go.Value.int Go.IntKind.u64 (0 : Int)]))]), Option.some (Go.Sx.Blk.mk Bool.true (nat_lit 23) (2 : Nat) Bool.true (List.map Go.Sx.canon [Go.Sx.AV.agg (List.map Go.Sx.AV.lit (Array.toList #[Go.Value.int Go.IntKind.u64 (0 : Int), Go.Value.int Go.IntKind.u64 (0 : Int)]))]))] = Go.Proofs.Ytbhbokhdkapkpaa.L1.wordsSt l ((0 : Int), BitVec.ofNat (64 : Nat) (0 : Nat), BitVec.ofNat (64 : Nat) (0 : Nat)) ∧ Go.Proofs.Ytbhbokhdkapkpaa.L1.wordsI l ((0 : Int), BitVec.ofNat (64 : Nat) (0 : Nat), BitVec.ofNat (64 : Nat) (0 : Nat))) ∧ ∀ (p : Int × BitVec (64 : Nat) × BitVec (64 : Nat)), Go.Proofs.Ytbhbokhdkapkpaa.L1.wordsI l p → (Decidable.decide (Prod.fst p < (64 : Int)) = Bool.true → (List.getD l (Int.toNat (Prod.fst p)) Bool.false = Bool.true → (Decidable.decide (Prod.fst p < (128 : Int)) = Bool.true → Go.Sx.inRange Go.IntKind.i64 (Int.tdiv p.1 (64 : Int)) ∧ Go.Sx.inRange Go.IntKind.i64 (Int.tdiv p.1 (64 : Int)) ∧ Int.tdiv p.1 (64 : Int) = (↑(0 : Nat) : Int) ∧ Int.tdiv p.1 (64 : Int) = (↑(0 : Nat) : Int) ∧ ((0 : Int) ≤ p.1 ∧ p.1 < (↑(128 : Nat) : Int)) ∧ Go.Sx.Blk.read Go.Proofs.Try.prog (Go.Sx.Blk.mk Bool.false (4 : Go.TypeId) (1 : Nat) Bool.true (List.map Go.Sx.AV.bool l)) (4 : Nat) ((0 : Nat) + Int.toNat p.1) (0 : Nat) = Option.some (Go.Sx.AV.bool Bool.true) ∧ Bool.true = Bool.true ∧ Go.Sx.inRange Go.IntKind.i64 (Int.tdiv p.1 (64 : Int)) ∧ Go.Sx.inRange Go.IntKind.i64 (Int.tdiv p.1 (64 : Int)) ∧ Int.tdiv p.1 (64 : Int) = (↑(0 : Nat) : Int) ∧ Int.tdiv p.1 (64 : Int) = (↑(0 : Nat) : Int) ∧ Go.Sx.inRange Go.IntKind.i64 (p.1 + (1 : Int)) ∧ ∃ (p' : Int × BitVec (64 : Nat) × BitVec (64 : Nat)), Go.Sx.St.mk [Go.Sx.AV.vsl (0 : Nat) (0 : Nat) (128 : Nat), Go.Sx.AV.any, Go.Sx.AV.ptr ((0 : Nat) + (1 : Nat)) (0 : Nat) (0 : Nat) Bool.true, Go.Sx.AV.ptr ((0 : Nat) + (1 : Nat) + (1 : Nat)) (0 : Nat) (0 : Nat) Bool.true, Go.Sx.AV.int Go.IntKind.i64 (p.1 + (1 : Int)), Go.Sx.AV.any, Go.Sx.AV.any, Go.Sx.AV.any, Go.Sx.AV.any, Go.Sx.AV.any, Go.Sx.AV.any, Go.Sx.AV.any, Go.Sx.AV.any, Go.Sx.AV.any, Go.Sx.AV.any, Go.Sx.AV.any, Go.Sx.AV.any, Go.Sx.AV.any, Go.Sx.AV.any, Go.Sx.AV.any, Go.Sx.AV.any, Go.Sx.AV.any, Go.Sx.AV.any, Go.Sx.AV.any, Go.Sx.AV.any, Go.Sx.AV.any, Go.Sx.AV.any, Go.Sx.AV.any, Go.Sx.AV.any, Go.Sx.AV.any] [Option.some (Go.Sx.Blk.mk Bool.false (4 : Go.TypeId) (1 : Nat) Bool.true (List.map Go.Sx.AV.bool l)), Option.some (Go.Sx.Blk.mk Bool.true (23 : Go.TypeId) (2 : Nat) Bool.true [Go.Sx.AV.agg [Go.Sx.AV.lit (Go.Value.int Go.IntKind.u64 (0 : Int)), Go.Sx.AV.lit (Go.Value.int Go.IntKind.u64 (0 : Int))]]), Option.some (Go.Sx.Blk.write (Go.Sx.Blk.write (Go.Sx.Blk.mk Bool.true (23 : Go.TypeId) (2 : Nat) Bool.true [Go.Sx.AV.agg [Go.Sx.AV.w64 (Prod.snd p).1, Go.Sx.AV.w64 (Prod.snd p).2]]) (0 : Nat) ((0 : Nat) + (0 : Nat) * (1 : Nat)) (Go.Sx.AV.w64 ((Prod.snd p).1 * BitVec.ofInt (64 : Nat) (2 : Int)))) (0 : Nat) ((0 : Nat) + (0 : Nat) * (1 : Nat)) (Go.Sx.AV.w64 ((Prod.snd p).1 * BitVec.ofInt (64 : Nat) (2 : Int) + BitVec.ofInt (64 : Nat) (1 : Int))))] = Go.Proofs.Ytbhbokhdkapkpaa.L1.wordsSt l p' ∧ Go.Proofs.Ytbhbokhdkapkpaa.L1.wordsI l p' ∧ Int.toNat ((200 : Int) - p'.1) < Int.toNat ((200 : Int) - p.1)) ∧ (Decidable.decide (Prod.fst p < (128 : Int)) = Bool.false → Go.Sx.AV.agg (List.map Go.Sx.canon1 (List.take (2 : Nat) (List.drop (0 : Nat) [Go.Sx.AV.w64 (Prod.snd p).1, Go.Sx.AV.w64 (Prod.snd p).2]))) = r)) ∧ (List.getD l (Int.toNat (Prod.fst p)) Bool.false = Bool.false → (Decidable.decide (Prod.fst p < (128 : Int)) = Bool.true → Go.Sx.inRange Go.IntKind.i64 (Int.tdiv p.1 (64 : Int)) ∧ Go.Sx.inRange Go.IntKind.i64 (Int.tdiv p.1 (64 : Int)) ∧ Int.tdiv p.1 (64 : Int) = (↑(0 : Nat) : Int) ∧ Int.tdiv p.1 (64 : Int) = (↑(0 : Nat) : Int) ∧ ((0 : Int) ≤ p.1 ∧ p.1 < (↑(128 : Nat) : Int)) ∧ Go.Sx.Blk.read Go.Proofs.Try.prog (Go.Sx.Blk.mk Bool.false (4 : Go.TypeId) (1 : Nat) Bool.true (List.map Go.Sx.AV.bool l)) (4 : Nat) ((0 : Nat) + Int.toNat p.1) (0 : Nat) = Option.some (Go.Sx.AV.bool Bool.false) ∧ Bool.false = Bool.false ∧ Go.Sx.inRange Go.IntKind.i64 (p.1 + (1 : Int)) ∧ ∃ (p' : Int × BitVec (64 : Nat) × BitVec (64 : Nat)), Go.Sx.St.mk [Go.Sx.AV.vsl (0 : Nat) (0 : Nat) (128 : Nat), Go.Sx.AV.any, Go.Sx.AV.ptr ((0 : Nat) + (1 : Nat)) (0 : Nat) (0 : Nat) Bool.true, Go.Sx.AV.ptr ((0 : Nat) + (1 : Nat) + (1 : Nat)) (0 : Nat) (0 : Nat) Bool.true, Go.Sx.AV.int Go.IntKind.i64 (p.1 + (1 : Int)), Go.Sx.AV.any, Go.Sx.AV.any, Go.Sx.AV.any, Go.Sx.AV.any, Go.Sx.AV.any, Go.Sx.AV.any, Go.Sx.AV.any, Go.Sx.AV.any, Go.Sx.AV.any, Go.Sx.AV.any, Go.Sx.AV.any, Go.Sx.AV.any, Go.Sx.AV.any, Go.Sx.AV.any, Go.Sx.AV.any, Go.Sx.AV.any, Go.Sx.AV.any, Go.Sx.AV.any, Go.Sx.AV.any, Go.Sx.AV.any, Go.Sx.AV.any, Go.Sx.AV.any, Go.Sx.AV.any, Go.Sx.AV.any, Go.Sx.AV.any] [Option.some (Go.Sx.Blk.mk Bool.false (4 : Go.TypeId) (1 : Nat) Bool.true (List.map Go.Sx.AV.bool l)), Option.some (Go.Sx.Blk.mk Bool.true (23 : Go.TypeId) (2 : Nat) Bool.true [Go.Sx.AV.agg [Go.Sx.AV.lit (Go.Value.int Go.IntKind.u64 (0 : Int)), Go.Sx.AV.lit (Go.Value.int Go.IntKind.u64 (0 : Int))]]), Option.some (Go.Sx.Blk.write (Go.Sx.Blk.mk Bool.true (23 : Go.TypeId) (2 : Nat) Bool.true [Go.Sx.AV.agg [Go.Sx.AV.w64 (Prod.snd p).1, Go.Sx.AV.w64 (Prod.snd p).2]]) (0 : Nat) ((0 : Nat) + (0 : Nat) * (1 : Nat)) (Go.Sx.AV.w64 ((Prod.snd p).1 * BitVec.ofInt (64 : Nat) (2 : Int))))] = Go.Proofs.Ytbhbokhdkapkpaa.L1.wordsSt l p' ∧ Go.Proofs.Ytbhbokhdkapkpaa.L1.wordsI l p' ∧ Int.toNat ((200 : Int) - p'.1) < Int.toNat ((200 : Int) - p.1)) ∧ (Decidable.decide (Prod.fst p < (128 : Int)) = Bool.false → Go.Sx.AV.agg (List.map Go.Sx.canon1 (List.take (2 : Nat) (List.drop (0 : Nat) [Go.Sx.AV.w64 (Prod.snd p).1, Go.Sx.AV.w64 (Prod.snd p).2]))) = r))) ∧ (Decidable.decide (Prod.fst p < (64 : Int)) = Bool.false → (List.getD l (Int.toNat (Prod.fst p)) Bool.false = Bool.true → (Decidable.decide (Prod.fst p < (128 : Int)) = Bool.true → Go.Sx.inRange Go.IntKind.i64 (Int.tdiv p.1 (64 : Int)) ∧ Go.Sx.inRange Go.IntKind.i64 (Int.tdiv p.1 (64 : Int)) ∧ Int.tdiv p.1 (64 : Int) = (↑(1 : Nat) : Int) ∧ Int.tdiv p.1 (64 : Int) = (↑(1 : Nat) : Int) ∧ ((0 : Int) ≤ p.1 ∧ p.1 < (↑(128 : Nat) : Int)) ∧ Go.Sx.Blk.read Go.Proofs.Try.prog (Go.Sx.Blk.mk Bool.false (4 : Go.TypeId) (1 : Nat) Bool.true (List.map Go.Sx.AV.bool l)) (4 : Nat) ((0 : Nat) + Int.toNat p.1) (0 : Nat) = Option.some (Go.Sx.AV.bool Bool.true) ∧ Bool.true = Bool.true ∧ Go.Sx.inRange Go.IntKind.i64 (Int.tdiv p.1 (64 : Int)) ∧ Go.Sx.inRange Go.IntKind.i64 (Int.tdiv p.1 (64 : Int)) ∧ Int.tdiv p.1 (64 : Int) = (↑(1 : Nat) : Int) ∧ Int.tdiv p.1 (64 : Int) = (↑(1 : Nat) : Int) ∧ Go.Sx.inRange Go.IntKind.i64 (p.1 + (1 : Int)) ∧ ∃ (p' : Int × BitVec (64 : Nat) × BitVec (64 : Nat)), Go.Sx.St.mk [Go.Sx.AV.vsl (0 : Nat) (0 : Nat) (128 : Nat), Go.Sx.AV.any, Go.Sx.AV.ptr ((0 : Nat) + (1 : Nat)) (0 : Nat) (0 : Nat) Bool.true, Go.Sx.AV.ptr ((0 : Nat) + (1 : Nat) + (1 : Nat)) (0 : Nat) (0 : Nat) Bool.true, Go.Sx.AV.int Go.IntKind.i64 (p.1 + (1 : Int)), Go.Sx.AV.any, Go.Sx.AV.any, Go.Sx.AV.any, Go.Sx.AV.any, Go.Sx.AV.any, Go.Sx.AV.any, Go.Sx.AV.any, Go.Sx.AV.any, Go.Sx.AV.any, Go.Sx.AV.any, Go.Sx.AV.any, Go.Sx.AV.any, Go.Sx.AV.any, Go.Sx.AV.any, Go.Sx.AV.any, Go.Sx.AV.any, Go.Sx.AV.any, Go.Sx.AV.any, Go.Sx.AV.any, Go.Sx.AV.any, Go.Sx.AV.any, Go.Sx.AV.any, Go.Sx.AV.any, Go.Sx.AV.any, Go.Sx.AV.any] [Option.some (Go.Sx.Blk.mk Bool.false (4 : Go.TypeId) (1 : Nat) Bool.true (List.map Go.Sx.AV.bool l)), Option.some (Go.Sx.Blk.mk Bool.true (23 : Go.TypeId) (2 : Nat) Bool.true [Go.Sx.AV.agg [Go.Sx.AV.lit (Go.Value.int Go.IntKind.u64 (0 : Int)), Go.Sx.AV.lit (Go.Value.int Go.IntKind.u64 (0 : Int))]]), Option.some (Go.Sx.Blk.write (Go.Sx.Blk.write (Go.Sx.Blk.mk Bool.true (23 : Go.TypeId) (2 : Nat) Bool.true [Go.Sx.AV.agg [Go.Sx.AV.w64 (Prod.snd p).1, Go.Sx.AV.w64 (Prod.snd p).2]]) (0 : Nat) ((0 : Nat) + (1 : Nat) * (1 : Nat)) (Go.Sx.AV.w64 ((Prod.snd p).2 * BitVec.ofInt (64 : Nat) (2 : Int)))) (0 : Nat) ((0 : Nat) + (1 : Nat) * (1 : Nat)) (Go.Sx.AV.w64 ((Prod.snd p).2 * BitVec.ofInt (64 : Nat) (2 : Int) + BitVec.ofInt (64 : Nat) (1 : Int))))] = Go.Proofs.Ytbhbokhdkapkpaa.L1.wordsSt l p' ∧ Go.Proofs.Ytbhbokhdkapkpaa.L1.wordsI l p' ∧ Int.toNat ((200 : Int) - p'.1) < Int.toNat ((200 : Int) - p.1)) ∧ (Decidable.decide (Prod.fst p < (128 : Int)) = Bool.false → Go.Sx.AV.agg (List.map Go.Sx.canon1 (List.take (2 : Nat) (List.drop (0 : Nat) [Go.Sx.AV.w64 (Prod.snd p).1, Go.Sx.AV.w64 (Prod.snd p).2]))) = r)) ∧ (List.getD l (Int.toNat (Prod.fst p)) Bool.false = Bool.false → (Decidable.decide (Prod.fst p < (128 : Int)) = Bool.true → Go.Sx.inRange Go.IntKind.i64 (Int.tdiv p.1 (64 : Int)) ∧ Go.Sx.inRange Go.IntKind.i64 (Int.tdiv p.1 (64 : Int)) ∧ Int.tdiv p.1 (64 : Int) = (↑(1 : Nat) : Int) ∧ Int.tdiv p.1 (64 : Int) = (↑(1 : Nat) : Int) ∧ ((0 : Int) ≤ p.1 ∧ p.1 < (↑(128 : Nat) : Int)) ∧ Go.Sx.Blk.read Go.Proofs.Try.prog (Go.Sx.Blk.mk Bool.false (4 : Go.TypeId) (1 : Nat) Bool.true (List.map Go.Sx.AV.bool l)) (4 : Nat) ((0 : Nat) + Int.toNat p.1) (0 : Nat) = Option.some (Go.Sx.AV.bool Bool.false) ∧ Bool.false = Bool.false ∧ Go.Sx.inRange Go.IntKind.i64 (p.1 + (1 : Int)) ∧ ∃ (p' : Int × BitVec (64 : Nat) × BitVec (64 : Nat)), Go.Sx.St.mk [Go.Sx.AV.vsl (0 : Nat) (0 : Nat) (128 : Nat), Go.Sx.AV.any, Go.Sx.AV.ptr ((0 : Nat) + (1 : Nat)) (0 : Nat) (0 : Nat) Bool.true, Go.Sx.AV.ptr ((0 : Nat) + (1 : Nat) + (1 : Nat)) (0 : Nat) (0 : Nat) Bool.true, Go.Sx.AV.int Go.IntKind.i64 (p.1 + (1 : Int)), Go.Sx.AV.any, Go.Sx.AV.any, Go.Sx.AV.any, Go.Sx.AV.any, Go.Sx.AV.any, Go.Sx.AV.any, Go.Sx.AV.any, Go.Sx.AV.any, Go.Sx.AV.any, Go.Sx.AV.any, Go.Sx.AV.any, Go.Sx.AV.any, Go.Sx.AV.any, Go.Sx.AV.any, Go.Sx.AV.any, Go.Sx.AV.any, Go.Sx.AV.any, Go.Sx.AV.any, Go.Sx.AV.any, Go.Sx.AV.any, Go.Sx.AV.any, Go.Sx.AV.any, Go.Sx.AV.any, Go.Sx.AV.any, Go.Sx.AV.any] [Option.some (Go.Sx.Blk.mk Bool.false (4 : Go.TypeId) (1 : Nat) Bool.true (List.map Go.Sx.AV.bool l)), Option.some (Go.Sx.Blk.mk Bool.true (23 : Go.TypeId) (2 : Nat) Bool.true [Go.Sx.AV.agg [Go.Sx.AV.lit (Go.Value.int Go.IntKind.u64 (0 : Int)), Go.Sx.AV.lit (Go.Value.int Go.IntKind.u64 (0 : Int))]]), Option.some (Go.Sx.Blk.write (Go.Sx.Blk.mk Bool.true (23 : Go.TypeId) (2 : Nat) Bool.true [Go.Sx.AV.agg [Go.Sx.AV.w64 (Prod.snd p).1, Go.Sx.AV.w64 (Prod.snd p).2]]) (0 : Nat) ((0 : Nat) + (1 : Nat) * (1 : Nat)) (Go.Sx.AV.w64 ((Prod.snd p).2 * BitVec.ofInt (64 : Nat) (2 : Int))))] = Go.Proofs.Ytbhbokhdkapkpaa.L1.wordsSt l p' ∧ Go.Proofs.Ytbhbokhdkapkpaa.L1.wordsI l p' ∧ Int.toNat ((200 : Int) - p'.1) < Int.toNat ((200 : Int) - p.1)) ∧ (Decidable.decide (Prod.fst p < (128 : Int)) = Bool.false → Go.Sx.AV.agg (List.map Go.Sx.canon1 (List.take (2 : Nat) (List.drop (0 : Nat) [Go.Sx.AV.w64 (Prod.snd p).1, Go.Sx.AV.w64 (Prod.snd p).2]))) = r)))) := by kernel_rfl

theorem read_bool {l : List Bool} {k : Int} {b w : Bool} (h0 : 0 ≤ k) (hl : k < (l.length : Int)) (hb : l.getD k.toNat false = b) : (Blk.mk w 4 1 true (l.map .bool)).read Try.prog 4 (0 + k.toNat) 0 = some (.bool b) := by
  refine read1 ?_ (by kernel_rfl)
  rw [← hb]
  simp [List.getD_eq_getElem?_getD, show k.toNat < l.length from by omega]

theorem div64_in {k : Int} (h0 : 0 ≤ k) (h1 : k < 128) : inRange .i64 (k.tdiv 64) := by
  rw [Int.tdiv_eq_ediv_of_nonneg h0]; exact inR (by omega) (by omega)

theorem div64_lo {k : Int} (h0 : 0 ≤ k) (h1 : k < 64) : k.tdiv 64 = ((0 : Nat) : Int) := by rw [Int.tdiv_eq_ediv_of_nonneg h0]; omega
theorem div64_hi {k : Int} (h0 : 64 ≤ k) (h1 : k < 128) : k.tdiv 64 = ((1 : Nat) : Int) := by rw [Int.tdiv_eq_ediv_of_nonneg (by omega)]; omega

theorem wd_succ (l : List Bool) (o n : Nat) : wd l o (n + 1) = if l.getD (o + n) false then wd l o n * 2#64 + 1#64 else wd l o n * 2#64 := rfl

def wordsF : List Arg → (Res → Prop) → Prop
  | [.row es], R => ∃ l : List Bool, es = l.map .bool ∧ l.length = 128 ∧ R (.v (.agg [.w64 (wd l 0 64), .w64 (wd l 64 64)]))
  | _, _ => False

theorem words_ok : SpecOK Try.prog 35 (genSpec [pBool] wordsF) := by
  refine genSpec_ok none_ok fun args R hF => ?_
  unfold wordsF at hF
  split at hF
  · rename_i es
    obtain ⟨l, rfl, hl, hR⟩ := hF
    refine ⟨_, hR, rfl, wordsH l, ?_⟩
    have hlen : (l.map AV.bool).length = 128 := by simpa using hl
    show run _ _ _ [.vsl 0 0 (l.map AV.bool).length] [some ⟨false, 4, 1, true, l.map .bool⟩] (wordsH l) _
    rw [hlen, words_run]
    refine ⟨⟨rfl, by decide, by decide, rfl, rfl⟩, ?_⟩
    rintro ⟨k, x, y⟩ ⟨h0, h1, hx, hy⟩
    simp only at h0 h1 hx hy
    have out : decide (k < 128) = false → canon2 (AV.agg (List.take 2 (List.drop 0 [AV.w64 x, AV.w64 y]))) = AV.agg [.w64 (wd l 0 64), .w64 (wd l 64 64)] := by
      intro h
      obtain rfl : k = 128 := by simp at h; omega
      rw [hx, hy]; rfl
    refine ⟨fun h64 => ⟨fun hb => ⟨fun hlt => ?_, out⟩, fun hb => ⟨fun hlt => ?_, out⟩⟩, fun h64 => ⟨fun hb => ⟨fun hlt => ?_, out⟩, fun hb => ⟨fun hlt => ?_, out⟩⟩⟩
    all_goals
      simp only [decide_eq_true_eq, decide_eq_false_iff_not] at h64 hlt hb
      have e1 := div64_in h0 hlt
      have e2 : inRange .i64 (k + 1) := inR (by omega) (by omega)
      have rd := read_bool (w := false) h0 (by omega) hb
    · have e4 := div64_lo h0 h64
      refine ⟨e1, e1, e4, e4, ⟨h0, hlt⟩, rd, rfl, e1, e1, e4, e4, e2, (k + 1, x * 2#64 + 1#64, y), rfl, ⟨by simp only; omega, by simp only; omega, ?_, ?_⟩, by simp only; omega⟩
      · show x * 2#64 + 1#64 = _
        rw [show min (k + 1).toNat 64 = k.toNat + 1 from by omega, wd_succ, Nat.zero_add, hb, if_pos rfl, hx, show min k.toNat 64 = k.toNat from by omega]
      · show y = _
        rw [hy]; congr 1; omega
    · have e4 := div64_lo h0 h64
      refine ⟨e1, e1, e4, e4, ⟨h0, hlt⟩, rd, rfl, e2, (k + 1, x * 2#64, y), rfl, ⟨by simp only; omega, by simp only; omega, ?_, ?_⟩, by simp only; omega⟩
      · show x * 2#64 = _
        rw [show min (k + 1).toNat 64 = k.toNat + 1 from by omega, wd_succ, Nat.zero_add, hb, if_neg (by simp), hx, show min k.toNat 64 = k.toNat from by omega]
      · show y = _
        rw [hy]; congr 1; omega
    · have e4 := div64_hi (by omega) hlt
      refine ⟨e1, e1, e4, e4, ⟨h0, hlt⟩, rd, rfl, e1, e1, e4, e4, e2, (k + 1, x, y * 2#64 + 1#64), rfl, ⟨by simp only; omega, by simp only; omega, ?_, ?_⟩, by simp only; omega⟩
      · show x = _
        rw [hx]; congr 1; omega
      · show y * 2#64 + 1#64 = _
        rw [show (k + 1).toNat - 64 = (k.toNat - 64) + 1 from by omega, wd_succ, show 64 + (k.toNat - 64) = k.toNat from by omega, hb, if_pos rfl, hy]
    · have e4 := div64_hi (by omega) hlt
      refine ⟨e1, e1, e4, e4, ⟨h0, hlt⟩, rd, rfl, e2, (k + 1, x, y * 2#64), rfl, ⟨by simp only; omega, by simp only; omega, ?_, ?_⟩, by simp only; omega⟩
      · show x = _
        rw [hx]; congr 1; omega
      · show y * 2#64 = _
        rw [show (k + 1).toNat - 64 = (k.toNat - 64) + 1 from by omega, wd_succ, show 64 + (k.toNat - 64) = k.toNat from by omega, hb, if_neg (by simp), hy]
  · exact hF.elim

end Go.Proofs.Ytbhbokhdkapkpaa.L1
