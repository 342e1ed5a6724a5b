/-
  Layer 16: the laws SplitBanks and SplitFiner.
-/
import Derived.Test.YthfgocpejlhanaaL16a
namespace Go.Proofs.Ythfgocpejlhanaa.L1
open Go.Sx Go.Sx.M

def bk16 (k : Int) (v m : BitVec 64) : List AV := (bkI k v m).map inA
def sb16St (k : Int) (v m : BitVec 64) (a b : BitVec 64) (p : Nat) : St :=
  ⟨[.int .i64 k, .any, .any, .any, .any, .ptr 0 0 0 true, .any, .any, .vsl 1 0 (bk16 k v m).length, .vsl 2 0 (bk16 k v m).length, .any, .any, .any, .any, .any, .any, .any, .any, .any, .any, .any, .any, .any, .any, .any, .any, .any, .any, .any, .any, .any, .any, .any, .any, .any, .any, .any, .any, .any, .any, .any, .any, .any, .any, .any, .int .i64 (bk16 k v m).length, .int .i64 p, .any, .any, .any, .any, .any, .any, .any, .any, .any, .any, .any, .any, .any, .any, .any, .any, .any, .any, .any, .any, .any, .any],
   [some ⟨true, 24, 2, true, [.agg [.w64 a, .w64 b]]⟩, some ⟨true, 3, 1, true, bk16 k v m⟩, some ⟨true, 3, 1, true, bk16 k v m⟩]⟩
def sb16M0 : Modes := ⟨[1, 0, 0, 0, 0, 1, 0, 0, 1, 1, 0, 0, 0, 0, 0, 0, 0, 0, 0, 0, 0, 0, 0, 0, 0, 0, 0, 0, 0, 0, 0, 0, 0, 0, 0, 0, 0, 0, 0, 0, 0, 0, 0, 0, 0, 1, 2, 0, 0, 0, 0, 0, 0, 0, 0, 0, 0, 0, 0, 0, 0, 0, 0, 0, 0, 0, 0, 0, 0], [], [], [], []⟩
def sb16M : Modes := ⟨[1, 0, 0, 0, 0, 1, 0, 0, 1, 1, 0, 0, 0, 0, 0, 0, 0, 0, 0, 0, 0, 0, 0, 0, 0, 0, 0, 0, 0, 0, 0, 0, 0, 0, 0, 0, 0, 0, 0, 0, 0, 0, 0, 0, 0, 1, 1, 0, 0, 0, 0, 0, 0, 0, 0, 0, 0, 0, 0, 0, 0, 0, 0, 0, 0, 0, 0, 0, 0], [], [], [], []⟩
def sb16M' : Modes := ⟨[1, 0, 0, 0, 0, 1, 0, 0, 0, 0, 0, 0, 0, 0, 0, 0, 0, 0, 0, 0, 0, 0, 0, 0, 0, 0, 0, 0, 0, 0, 0, 0, 0, 0, 0, 0, 0, 0, 0, 0, 0, 0, 0, 0, 0, 0, 0, 0, 0, 0, 0, 0, 0, 0, 0, 0, 0, 0, 0, 0, 0, 0, 0, 0, 0, 0, 0, 0, 0], [], [], [], []⟩
def sb16B (k : Int) (v m a b : BitVec 64) : List Hint := [.br false, .br false, .br false, .linv _ 0 (sb16St k v m a b) (fun p => p ≤ (bk16 k v m).length) (fun p => (bk16 k v m).length + 1 - p) sb16M0 sb16M sb16M' (fun _ => [.br true]) fun p =>
  [.fork [.dy, .cell (inA ((bkI k v m).getD p 0)), .dy, .cell (inA ((bkI k v m).getD p 0)), .br false, .nw] []]]
def sb16N (k : Int) (v m : BitVec 64) : List Hint := [.nm (bk16 k v m), .nm (bk16 k v m)]
def sb16H (k : Int) (v m a b : BitVec 64) (A B C : Hint) : List Hint := [.fork [.fork (.nw :: A :: sb16B k v m a b) (B :: sb16B k v m a b)] (C :: sb16B k v m a b)]

def sf16H : List Hint := [.fork [] [.fork [] [.nw, .nw, .br true, .nw, .nw, .nw, .br true, .br true]]]

noncomputable def splitBanks16_run_cut0 (k : Int) (v m a b : BitVec 64) : St := St.mk [AV.int IntKind.i64 k, AV.any, AV.any, AV.any, AV.any, AV.ptr (0 : Nat) (0 : Nat) (0 : Nat) true, AV.any, AV.int IntKind.i64 ((1 : Int) * (2 : Int) ^ Min.min (Int.toNat k) (64 : Nat)), AV.vsl ((0 : Nat) + (1 : Nat)) (0 : Nat) (List.length (bk16 k v m)), AV.vsl ((0 : Nat) + (1 : Nat) + (1 : Nat)) (0 : Nat) (List.length (bk16 k v m)), AV.any, AV.any, AV.any, AV.any, AV.any, AV.any, AV.any, AV.any, AV.any, AV.any, AV.any, AV.any, AV.any, AV.any, AV.any, AV.any, AV.any, AV.any, AV.any, AV.any, AV.any, AV.any, AV.any, AV.any, AV.any, AV.any, AV.any, AV.any, AV.any, AV.any, AV.any, AV.any, AV.any, AV.any, AV.any, AV.any, AV.any, AV.any, AV.any, AV.any, AV.any, AV.any, AV.any, AV.any, AV.any, AV.any, AV.any, AV.any, AV.any, AV.any, AV.any, AV.any, AV.any, AV.any, AV.any, AV.any, AV.any, AV.any, AV.any] [some (Blk.mk true (24 : Nat) (2 : Nat) true [AV.agg [AV.w64 a, AV.w64 b]]), some (Blk.mk true (3 : TypeId) (1 : Nat) true (bk16 k v m)), some (Blk.mk true (3 : TypeId) (1 : Nat) true (bk16 k v m))]

noncomputable def splitBanks16_run_cut1 (k : Int) (v m a b : BitVec 64) : St := St.mk [AV.int IntKind.i64 k, AV.any, AV.any, AV.any, AV.any, AV.ptr (0 : Nat) (0 : Nat) (0 : Nat) true, AV.any, AV.lit (Value.int IntKind.i64 (0 : Int)), AV.vsl ((0 : Nat) + (1 : Nat)) (0 : Nat) (List.length (bk16 k v m)), AV.vsl ((0 : Nat) + (1 : Nat) + (1 : Nat)) (0 : Nat) (List.length (bk16 k v m)), AV.any, AV.any, AV.any, AV.any, AV.any, AV.any, AV.any, AV.any, AV.any, AV.any, AV.any, AV.any, AV.any, AV.any, AV.any, AV.any, AV.any, AV.any, AV.any, AV.any, AV.any, AV.any, AV.any, AV.any, AV.any, AV.any, AV.any, AV.any, AV.any, AV.any, AV.any, AV.any, AV.any, AV.any, AV.any, AV.any, AV.any, AV.any, AV.any, AV.any, AV.any, AV.any, AV.any, AV.any, AV.any, AV.any, AV.any, AV.any, AV.any, AV.any, AV.any, AV.any, AV.any, AV.any, AV.any, AV.any, AV.any, AV.any, AV.any] [some (Blk.mk true (24 : Nat) (2 : Nat) true [AV.agg [AV.w64 a, AV.w64 b]]), some (Blk.mk true (3 : TypeId) (1 : Nat) true (bk16 k v m)), some (Blk.mk true (3 : TypeId) (1 : Nat) true (bk16 k v m))]

noncomputable def splitBanks16_run_cut2 (k : Int) (v m a b : BitVec 64) : St := St.mk [AV.int IntKind.i64 k, AV.any, AV.any, AV.any, AV.any, AV.ptr (0 : Nat) (0 : Nat) (0 : Nat) true, AV.any, AV.lit (Value.int IntKind.i64 (0 : Int)), AV.vsl ((0 : Nat) + (1 : Nat)) (0 : Nat) (List.length (bk16 k v m)), AV.vsl ((0 : Nat) + (1 : Nat) + (1 : Nat)) (0 : Nat) (List.length (bk16 k v m)), AV.any, AV.any, AV.any, AV.any, AV.any, AV.any, AV.any, AV.any, AV.any, AV.any, AV.any, AV.any, AV.any, AV.any, AV.any, AV.any, AV.any, AV.any, AV.any, AV.any, AV.any, AV.any, AV.any, AV.any, AV.any, AV.any, AV.any, AV.any, AV.any, AV.any, AV.any, AV.any, AV.any, AV.any, AV.any, AV.any, AV.any, AV.any, AV.any, AV.any, AV.any, AV.any, AV.any, AV.any, AV.any, AV.any, AV.any, AV.any, AV.any, AV.any, AV.any, AV.any, AV.any, AV.any, AV.any, AV.any, AV.any, AV.any, AV.any] [some (Blk.mk true (24 : Nat) (2 : Nat) true [AV.agg [AV.w64 a, AV.w64 b]]), some (Blk.mk true (3 : TypeId) (1 : Nat) true (bk16 k v m)), some (Blk.mk true (3 : TypeId) (1 : Nat) true (bk16 k v m))]

theorem splitBanks16_run (k : Int) (v w m n a b : BitVec 64) : run l16Cs Try.prog 3 [.int .i64 k, .agg [.w64 v, .w64 w, .w64 m, .w64 n], .agg [.w64 a, .w64 b]] [] (sb16H k v m a b (.cut 69 [0, 5, 7, 8, 9] (splitBanks16_run_cut0 k v m a b) (sb16N k v m)) (.cut 69 [0, 5, 7, 8, 9] (splitBanks16_run_cut1 k v m a b) (sb16N k v m)) (.cut 69 [0, 5, 7, 8, 9] (splitBanks16_run_cut2 k v m a b) (sb16N k v m))) isTrue =
    ((Decidable.decide (k ≥ (0 : Int)) = true → (Decidable.decide (k ≤ (3 : Int)) = true → (0 : Int) ≤ k ∧ inRange IntKind.i64 ((1 : Int) * (2 : Int) ^ Min.min (Int.toNat k) (64 : Nat)) ∧ ((List.map inA (bkI k v m) = bk16 k v m ∧ List.length (List.map inA (bkI k v m)) = List.length (bk16 k v m)) ∧ (List.map inA (bkI k v m) = bk16 k v m ∧ List.length (List.map inA (bkI k v m)) = List.length (bk16 k v m)) ∧ ∃ (_ : Unit), (splitBanks16_run_cut0 k v m a b) = (splitBanks16_run_cut0 k v m a b) ∧ True) ∧ ∀ (_ : Unit), True → ((↑(List.length (bk16 k v m)) : Int) != (↑(List.length (bk16 k v m)) : Int)) = false ∧ (mnI k != (1 : Int) * (2 : Int) ^ Min.min (Int.toNat k) (64 : Nat)) = false ∧ (!rtI k == Decidable.decide ((1 : Int) * (2 : Int) ^ Min.min (Int.toNat k) (64 : Nat) > (0 : Int))) = false ∧ (St.mk [AV.int IntKind.i64 k, AV.any, AV.any, AV.any, AV.any, AV.ptr (0 : Nat) (0 : Nat) (0 : Nat) true, AV.any, AV.any, AV.vsl ((0 : Nat) + (1 : Nat)) (0 : Nat) (List.length (bk16 k v m)), AV.vsl ((0 : Nat) + (1 : Nat) + (1 : Nat)) (0 : Nat) (List.length (bk16 k v m)), AV.any, AV.any, AV.any, AV.any, AV.any, AV.any, AV.any, AV.any, AV.any, AV.any, AV.any, AV.any, AV.any, AV.any, AV.any, AV.any, AV.any, AV.any, AV.any, AV.any, AV.any, AV.any, AV.any, AV.any, AV.any, AV.any, AV.any, AV.any, AV.any, AV.any, AV.any, AV.any, AV.any, AV.any, AV.any, AV.int IntKind.i64 (↑(List.length (bk16 k v m)) : Int), AV.int IntKind.i64 (0 : Int), AV.any, AV.any, AV.any, AV.any, AV.any, AV.any, AV.any, AV.any, AV.any, AV.any, AV.any, AV.any, AV.any, AV.any, AV.any, AV.any, AV.any, AV.any, AV.any, AV.any, AV.any, AV.any] [some (Blk.mk true (24 : Nat) (2 : Nat) true [AV.agg [AV.w64 a, AV.w64 b]]), some (Blk.mk true (3 : TypeId) (1 : Nat) true (bk16 k v m)), some (Blk.mk true (3 : TypeId) (1 : Nat) true (bk16 k v m))] = sb16St k v m a b (0 : Nat) ∧ Nat.le (0 : Nat) (List.length (bk16 k v m))) ∧ ∀ (p : Nat), Nat.le p (List.length (bk16 k v m)) → (Decidable.decide ((↑p : Int) < (↑(List.length (bk16 k v m)) : Int)) = true → ((0 : Int) ≤ (↑p : Int) ∧ (↑p : Int) < (↑(List.length (bk16 k v m)) : Int)) ∧ Blk.read Proofs.Try.prog (Blk.mk true (3 : TypeId) (1 : Nat) true (bk16 k v m)) (3 : Nat) ((0 : Nat) + Int.toNat (↑p : Int)) (0 : Nat) = some (AV.int IntKind.i64 (List.getD (bkI k v m) p (0 : Int))) ∧ ((0 : Int) ≤ (↑p : Int) ∧ (↑p : Int) < (↑(List.length (bk16 k v m)) : Int)) ∧ Blk.read Proofs.Try.prog (Blk.mk true (3 : TypeId) (1 : Nat) true (bk16 k v m)) (3 : Nat) ((0 : Nat) + Int.toNat (↑p : Int)) (0 : Nat) = some (AV.int IntKind.i64 (List.getD (bkI k v m) p (0 : Int))) ∧ (List.getD (bkI k v m) p (0 : Int) != List.getD (bkI k v m) p (0 : Int)) = false ∧ inRange IntKind.i64 ((↑p : Int) + (1 : Int)) ∧ ∃ (p' : Nat), St.mk [AV.int IntKind.i64 k, AV.any, AV.any, AV.any, AV.any, AV.ptr (0 : Nat) (0 : Nat) (0 : Nat) true, AV.any, AV.any, AV.vsl ((0 : Nat) + (1 : Nat)) (0 : Nat) (List.length (bk16 k v m)), AV.vsl ((0 : Nat) + (1 : Nat) + (1 : Nat)) (0 : Nat) (List.length (bk16 k v m)), AV.any, AV.any, AV.any, AV.any, AV.any, AV.any, AV.any, AV.any, AV.any, AV.any, AV.any, AV.any, AV.any, AV.any, AV.any, AV.any, AV.any, AV.any, AV.any, AV.any, AV.any, AV.any, AV.any, AV.any, AV.any, AV.any, AV.any, AV.any, AV.any, AV.any, AV.any, AV.any, AV.any, AV.any, AV.any, AV.int IntKind.i64 (↑(List.length (bk16 k v m)) : Int), AV.int IntKind.i64 ((↑p : Int) + (1 : Int)), AV.any, AV.any, AV.any, AV.any, AV.any, AV.any, AV.any, AV.any, AV.any, AV.any, AV.any, AV.any, AV.any, AV.any, AV.any, AV.any, AV.any, AV.any, AV.any, AV.any, AV.any, AV.any] [some (Blk.mk true (24 : TypeId) (2 : Nat) true [AV.agg [AV.w64 a, AV.w64 b]]), some (Blk.mk true (3 : TypeId) (1 : Nat) true (bk16 k v m)), some (Blk.mk true (3 : TypeId) (1 : Nat) true (bk16 k v m))] = sb16St k v m a b p' ∧ Nat.le p' (List.length (bk16 k v m)) ∧ List.length (bk16 k v m) + (1 : Nat) - p' < List.length (bk16 k v m) + (1 : Nat) - p) ∧ (Decidable.decide ((↑p : Int) < (↑(List.length (bk16 k v m)) : Int)) = false → (ofI k a == ofI k a) = true ∧ True ∧ true = true)) ∧ (Decidable.decide (k ≤ (3 : Int)) = false → ((List.map inA (bkI k v m) = bk16 k v m ∧ List.length (List.map inA (bkI k v m)) = List.length (bk16 k v m)) ∧ (List.map inA (bkI k v m) = bk16 k v m ∧ List.length (List.map inA (bkI k v m)) = List.length (bk16 k v m)) ∧ ∃ (_ : Unit), (splitBanks16_run_cut1 k v m a b) = (splitBanks16_run_cut1 k v m a b) ∧ True) ∧ ∀ (_ : Unit), True → ((↑(List.length (bk16 k v m)) : Int) != (↑(List.length (bk16 k v m)) : Int)) = false ∧ (mnI k != (0 : Int)) = false ∧ (!rtI k == Decidable.decide ((0 : Int) > (0 : Int))) = false ∧ (St.mk [AV.int IntKind.i64 k, AV.any, AV.any, AV.any, AV.any, AV.ptr (0 : Nat) (0 : Nat) (0 : Nat) true, AV.any, AV.any, AV.vsl ((0 : Nat) + (1 : Nat)) (0 : Nat) (List.length (bk16 k v m)), AV.vsl ((0 : Nat) + (1 : Nat) + (1 : Nat)) (0 : Nat) (List.length (bk16 k v m)), AV.any, AV.any, AV.any, AV.any, AV.any, AV.any, AV.any, AV.any, AV.any, AV.any, AV.any, AV.any, AV.any, AV.any, AV.any, AV.any, AV.any, AV.any, AV.any, AV.any, AV.any, AV.any, AV.any, AV.any, AV.any, AV.any, AV.any, AV.any, AV.any, AV.any, AV.any, AV.any, AV.any, AV.any, AV.any, AV.int IntKind.i64 (↑(List.length (bk16 k v m)) : Int), AV.int IntKind.i64 (0 : Int), AV.any, AV.any, AV.any, AV.any, AV.any, AV.any, AV.any, AV.any, AV.any, AV.any, AV.any, AV.any, AV.any, AV.any, AV.any, AV.any, AV.any, AV.any, AV.any, AV.any, AV.any, AV.any] [some (Blk.mk true (24 : Nat) (2 : Nat) true [AV.agg [AV.w64 a, AV.w64 b]]), some (Blk.mk true (3 : TypeId) (1 : Nat) true (bk16 k v m)), some (Blk.mk true (3 : TypeId) (1 : Nat) true (bk16 k v m))] = sb16St k v m a b (0 : Nat) ∧ Nat.le (0 : Nat) (List.length (bk16 k v m))) ∧ ∀ (p : Nat), Nat.le p (List.length (bk16 k v m)) → (Decidable.decide ((↑p : Int) < (↑(List.length (bk16 k v m)) : Int)) = true → ((0 : Int) ≤ (↑p : Int) ∧ (↑p : Int) < (↑(List.length (bk16 k v m)) : Int)) ∧ Blk.read Proofs.Try.prog (Blk.mk true (3 : TypeId) (1 : Nat) true (bk16 k v m)) (3 : Nat) ((0 : Nat) + Int.toNat (↑p : Int)) (0 : Nat) = some (AV.int IntKind.i64 (List.getD (bkI k v m) p (0 : Int))) ∧ ((0 : Int) ≤ (↑p : Int) ∧ (↑p : Int) < (↑(List.length (bk16 k v m)) : Int)) ∧ Blk.read Proofs.Try.prog (Blk.mk true (3 : TypeId) (1 : Nat) true (bk16 k v m)) (3 : Nat) ((0 : Nat) + Int.toNat (↑p : Int)) (0 : Nat) = some (AV.int IntKind.i64 (List.getD (bkI k v m) p (0 : Int))) ∧ (List.getD (bkI k v m) p (0 : Int) != List.getD (bkI k v m) p (0 : Int)) = false ∧ inRange IntKind.i64 ((↑p : Int) + (1 : Int)) ∧ ∃ (p' : Nat), St.mk [AV.int IntKind.i64 k, AV.any, AV.any, AV.any, AV.any, AV.ptr (0 : Nat) (0 : Nat) (0 : Nat) true, AV.any, AV.any, AV.vsl ((0 : Nat) + (1 : Nat)) (0 : Nat) (List.length (bk16 k v m)), AV.vsl ((0 : Nat) + (1 : Nat) + (1 : Nat)) (0 : Nat) (List.length (bk16 k v m)), AV.any, AV.any, AV.any, AV.any, AV.any, AV.any, AV.any, AV.any, AV.any, AV.any, AV.any, AV.any, AV.any, AV.any, AV.any, AV.any, AV.any, AV.any, AV.any, AV.any, AV.any, AV.any, AV.any, AV.any, AV.any, AV.any, AV.any, AV.any, AV.any, AV.any, AV.any, AV.any, AV.any, AV.any, AV.any, AV.int IntKind.i64 (↑(List.length (bk16 k v m)) : Int), AV.int IntKind.i64 ((↑p : Int) + (1 : Int)), AV.any, AV.any, AV.any, AV.any, AV.any, AV.any, AV.any, AV.any, AV.any, AV.any, AV.any, AV.any, AV.any, AV.any, AV.any, AV.any, AV.any, AV.any, AV.any, AV.any, AV.any, AV.any] [some (Blk.mk true (24 : TypeId) (2 : Nat) true [AV.agg [AV.w64 a, AV.w64 b]]), some (Blk.mk true (3 : TypeId) (1 : Nat) true (bk16 k v m)), some (Blk.mk true (3 : TypeId) (1 : Nat) true (bk16 k v m))] = sb16St k v m a b p' ∧ Nat.le p' (List.length (bk16 k v m)) ∧ List.length (bk16 k v m) + (1 : Nat) - p' < List.length (bk16 k v m) + (1 : Nat) - p) ∧ (Decidable.decide ((↑p : Int) < (↑(List.length (bk16 k v m)) : Int)) = false → (ofI k a == ofI k a) = true ∧ True ∧ true = true))) ∧ (Decidable.decide (k ≥ (0 : Int)) = false → ((List.map inA (bkI k v m) = bk16 k v m ∧ List.length (List.map inA (bkI k v m)) = List.length (bk16 k v m)) ∧ (List.map inA (bkI k v m) = bk16 k v m ∧ List.length (List.map inA (bkI k v m)) = List.length (bk16 k v m)) ∧ ∃ (_ : Unit), (splitBanks16_run_cut1 k v m a b) = (splitBanks16_run_cut1 k v m a b) ∧ True) ∧ ∀ (_ : Unit), True → ((↑(List.length (bk16 k v m)) : Int) != (↑(List.length (bk16 k v m)) : Int)) = false ∧ (mnI k != (0 : Int)) = false ∧ (!rtI k == Decidable.decide ((0 : Int) > (0 : Int))) = false ∧ (St.mk [AV.int IntKind.i64 k, AV.any, AV.any, AV.any, AV.any, AV.ptr (0 : Nat) (0 : Nat) (0 : Nat) true, AV.any, AV.any, AV.vsl ((0 : Nat) + (1 : Nat)) (0 : Nat) (List.length (bk16 k v m)), AV.vsl ((0 : Nat) + (1 : Nat) + (1 : Nat)) (0 : Nat) (List.length (bk16 k v m)), AV.any, AV.any, AV.any, AV.any, AV.any, AV.any, AV.any, AV.any, AV.any, AV.any, AV.any, AV.any, AV.any, AV.any, AV.any, AV.any, AV.any, AV.any, AV.any, AV.any, AV.any, AV.any, AV.any, AV.any, AV.any, AV.any, AV.any, AV.any, AV.any, AV.any, AV.any, AV.any, AV.any, AV.any, AV.any, AV.int IntKind.i64 (↑(List.length (bk16 k v m)) : Int), AV.int IntKind.i64 (0 : Int), AV.any, AV.any, AV.any, AV.any, AV.any, AV.any, AV.any, AV.any, AV.any, AV.any, AV.any, AV.any, AV.any, AV.any, AV.any, AV.any, AV.any, AV.any, AV.any, AV.any, AV.any, AV.any] [some (Blk.mk true (24 : Nat) (2 : Nat) true [AV.agg [AV.w64 a, AV.w64 b]]), some (Blk.mk true (3 : TypeId) (1 : Nat) true (bk16 k v m)), some (Blk.mk true (3 : TypeId) (1 : Nat) true (bk16 k v m))] = sb16St k v m a b (0 : Nat) ∧ Nat.le (0 : Nat) (List.length (bk16 k v m))) ∧ ∀ (p : Nat), Nat.le p (List.length (bk16 k v m)) → (Decidable.decide ((↑p : Int) < (↑(List.length (bk16 k v m)) : Int)) = true → ((0 : Int) ≤ (↑p : Int) ∧ (↑p : Int) < (↑(List.length (bk16 k v m)) : Int)) ∧ Blk.read Proofs.Try.prog (Blk.mk true (3 : TypeId) (1 : Nat) true (bk16 k v m)) (3 : Nat) ((0 : Nat) + Int.toNat (↑p : Int)) (0 : Nat) = some (AV.int IntKind.i64 (List.getD (bkI k v m) p (0 : Int))) ∧ ((0 : Int) ≤ (↑p : Int) ∧ (↑p : Int) < (↑(List.length (bk16 k v m)) : Int)) ∧ Blk.read Proofs.Try.prog (Blk.mk true (3 : TypeId) (1 : Nat) true (bk16 k v m)) (3 : Nat) ((0 : Nat) + Int.toNat (↑p : Int)) (0 : Nat) = some (AV.int IntKind.i64 (List.getD (bkI k v m) p (0 : Int))) ∧ (List.getD (bkI k v m) p (0 : Int) != List.getD (bkI k v m) p (0 : Int)) = false ∧ inRange IntKind.i64 ((↑p : Int) + (1 : Int)) ∧ ∃ (p' : Nat), St.mk [AV.int IntKind.i64 k, AV.any, AV.any, AV.any, AV.any, AV.ptr (0 : Nat) (0 : Nat) (0 : Nat) true, AV.any, AV.any, AV.vsl ((0 : Nat) + (1 : Nat)) (0 : Nat) (List.length (bk16 k v m)), AV.vsl ((0 : Nat) + (1 : Nat) + (1 : Nat)) (0 : Nat) (List.length (bk16 k v m)), AV.any, AV.any, AV.any, AV.any, AV.any, AV.any, AV.any, AV.any, AV.any, AV.any, AV.any, AV.any, AV.any, AV.any, AV.any, AV.any, AV.any, AV.any, AV.any, AV.any, AV.any, AV.any, AV.any, AV.any, AV.any, AV.any, AV.any, AV.any, AV.any, AV.any, AV.any, AV.any, AV.any, AV.any, AV.any, AV.int IntKind.i64 (↑(List.length (bk16 k v m)) : Int), AV.int IntKind.i64 ((↑p : Int) + (1 : Int)), AV.any, AV.any, AV.any, AV.any, AV.any, AV.any, AV.any, AV.any, AV.any, AV.any, AV.any, AV.any, AV.any, AV.any, AV.any, AV.any, AV.any, AV.any, AV.any, AV.any, AV.any, AV.any] [some (Blk.mk true (24 : TypeId) (2 : Nat) true [AV.agg [AV.w64 a, AV.w64 b]]), some (Blk.mk true (3 : TypeId) (1 : Nat) true (bk16 k v m)), some (Blk.mk true (3 : TypeId) (1 : Nat) true (bk16 k v m))] = sb16St k v m a b p' ∧ Nat.le p' (List.length (bk16 k v m)) ∧ List.length (bk16 k v m) + (1 : Nat) - p' < List.length (bk16 k v m) + (1 : Nat) - p) ∧ (Decidable.decide ((↑p : Int) < (↑(List.length (bk16 k v m)) : Int)) = false → (ofI k a == ofI k a) = true ∧ True ∧ true = true))) := by kernel_rfl

theorem splitFiner16_run (k : Int) (a b : BitVec 64) : run l16Cs Try.prog 8 [.int .i64 k, .agg [.w64 a, .w64 b]] [] sf16H isTrue =
    ((Decidable.decide (k < (0 : Int)) = true → True ∧ true = true) ∧ (Decidable.decide (k < (0 : Int)) = false → (Decidable.decide (k ≥ (3 : Int)) = true → True ∧ true = true) ∧ (Decidable.decide (k ≥ (3 : Int)) = false → inRange IntKind.i64 (k + (1 : Int)) ∧ inRange IntKind.i64 (Int.tdiv (ofI (k + (1 : Int)) a) (2 : Int)) ∧ (Int.tdiv (ofI (k + (1 : Int)) a) (2 : Int) == ofI k a) = true ∧ inRange IntKind.i64 (k + (1 : Int)) ∧ inRange IntKind.i64 ((2 : Int) * ofI k a) ∧ inRange IntKind.i64 (ofI (k + (1 : Int)) a - (2 : Int) * ofI k a) ∧ (Int.tmod (ofI (k + (1 : Int)) a) (2 : Int) == ofI (k + (1 : Int)) a - (2 : Int) * ofI k a) = true ∧ ((Int.tmod (ofI (k + (1 : Int)) a) (2 : Int) == (1 : Int)) == bitZ a b k) = true ∧ True ∧ true = true))) := by kernel_rfl

theorem splitBanks16_law (k : Int) (v w m n a b : BitVec 64) : ∃ hs, run l16Cs Try.prog 3 [.int .i64 k, .agg [.w64 v, .w64 w, .w64 m, .w64 n], .agg [.w64 a, .w64 b]] [] hs isTrue := by
  refine ⟨(sb16H k v m a b (.cut 69 [0, 5, 7, 8, 9] (splitBanks16_run_cut0 k v m a b) (sb16N k v m)) (.cut 69 [0, 5, 7, 8, 9] (splitBanks16_run_cut1 k v m a b) (sb16N k v m)) (.cut 69 [0, 5, 7, 8, 9] (splitBanks16_run_cut2 k v m a b) (sb16N k v m))), ?_⟩
  rw [splitBanks16_run]
  have hb : (bk16 k v m).length ≤ 8 := by
    unfold bk16
    rw [List.length_map]
    exact bkI_length k v m
  have out : ¬ (0 ≤ k ∧ k ≤ 3) → (mnI k != 0) = false ∧ (!(rtI k == decide ((0 : Int) > 0))) = false := fun h => by
    have h := notTT2 rtI_iff h
    have e : mnI k = 0 := by
      unfold mnI
      rw [h]
      rfl
    rw [e, h]
    decide
  have ink : 0 ≤ k ∧ k ≤ 3 → inRange .i64 (1 * 2 ^ Min.min (Int.toNat k) 64) ∧ (mnI k != 1 * 2 ^ Min.min (Int.toNat k) 64) = false ∧ (!(rtI k == decide ((1 : Int) * 2 ^ Min.min (Int.toNat k) 64 > 0))) = false := fun h => by
    rcases (show k = 0 ∨ k = 1 ∨ k = 2 ∨ k = 3 by omega) with rfl | rfl | rfl | rfl
    all_goals exact ⟨inR (by decide) (by decide), by decide, by decide⟩
  refine ⟨fun h0 => ⟨fun h3 => ?_, fun h3 => ⟨⟨⟨rfl, rfl⟩, ⟨rfl, rfl⟩, (), rfl, trivial⟩, fun _ _ => ⟨by simp, (out fun h => absurd h.2 (of_decide_eq_false h3)).1, (out fun h => absurd h.2 (of_decide_eq_false h3)).2, ⟨rfl, Nat.zero_le _⟩, ?_⟩⟩⟩, fun h0 => ⟨⟨⟨rfl, rfl⟩, ⟨rfl, rfl⟩, (), rfl, trivial⟩, fun _ _ => ⟨by simp, (out fun h => absurd h.1 (of_decide_eq_false h0)).1, (out fun h => absurd h.1 (of_decide_eq_false h0)).2, ⟨rfl, Nat.zero_le _⟩, ?_⟩⟩⟩
  · obtain ⟨i1, i2, i3⟩ := ink ⟨of_decide_eq_true h0, of_decide_eq_true h3⟩
    refine ⟨of_decide_eq_true h0, i1, ⟨⟨rfl, rfl⟩, ⟨rfl, rfl⟩, (), rfl, trivial⟩, fun _ _ => ⟨by simp, i2, i3, ⟨rfl, Nat.zero_le _⟩, ?_⟩⟩
    intro p (hp : p ≤ _)
    refine ⟨fun hlt => ?_, fun _ => ⟨by simp, trivial, rfl⟩⟩
    have hlt := of_decide_eq_true hlt
    have B : 0 ≤ (p : Int) ∧ (p : Int) < (((bkI k v m).map inA).length : Int) := ⟨by omega, hlt⟩
    have R := fun b => read_rows (b := b) (ty := 3) (esz := 1) (de := inA) (l := bkI k v m) B.1 B.2 (int_whole _)
    exact ⟨B, R true, B, R true, by simp, inR (by omega) (by omega), p + 1, rfl, by show p + 1 ≤ _; omega, by omega⟩
  all_goals
    intro p (hp : p ≤ _)
    refine ⟨fun hlt => ?_, fun _ => ⟨by simp, trivial, rfl⟩⟩
    have hlt := of_decide_eq_true hlt
    have B : 0 ≤ (p : Int) ∧ (p : Int) < (((bkI k v m).map inA).length : Int) := ⟨by omega, hlt⟩
    have R := fun b => read_rows (b := b) (ty := 3) (esz := 1) (de := inA) (l := bkI k v m) B.1 B.2 (int_whole _)
    exact ⟨B, R true, B, R true, by simp, inR (by omega) (by omega), p + 1, rfl, by show p + 1 ≤ _; omega, by omega⟩

theorem ofI_pos (k : Int) (a : BitVec 64) : 0 ≤ ofI k a := by
  unfold ofI
  split <;> omega

theorem ofI_finer {k : Int} (h0 : 0 ≤ k) (h3 : k < 3) (a : BitVec 64) : ofI (k + 1) a = 2 * ofI k a + (if a.getMsbD k.toNat then 1 else 0) := by
  unfold ofI
  rw [if_pos (rtI_iff.2 (by omega)), if_pos (rtI_iff.2 (by omega)), show (k + 1).toNat = k.toNat + 1 from by omega, ofN]
  cases a.getMsbD k.toNat
  · show ((2 * ofN a k.toNat + 0 : Nat) : Int) = 2 * (ofN a k.toNat : Int) + 0
    omega
  · show ((2 * ofN a k.toNat + 1 : Nat) : Int) = 2 * (ofN a k.toNat : Int) + 1
    omega

theorem ofI_lt (k : Int) (a : BitVec 64) : ofI k a < 8 := by
  unfold ofI
  split
  · rename_i h
    have h := rtI_iff.1 h
    have h1 := ofN_lt a k.toNat
    have h2 := pow_le (show k.toNat ≤ 3 by omega)
    omega
  · omega

theorem splitFiner16_law (k : Int) (a b : BitVec 64) : ∃ hs, run l16Cs Try.prog 8 [.int .i64 k, .agg [.w64 a, .w64 b]] [] hs isTrue := by
  refine ⟨sf16H, ?_⟩
  rw [splitFiner16_run]
  refine ⟨fun _ => ⟨trivial, rfl⟩, fun h0 => ⟨fun _ => ⟨trivial, rfl⟩, fun h3 => ?_⟩⟩
  have h0 := of_decide_eq_false h0
  have h3 := of_decide_eq_false h3
  have e := ofI_finer (show 0 ≤ k by omega) (show k < 3 by omega) a
  have p1 := ofI_pos (k + 1) a
  have p0 := ofI_pos k a
  have q1 := ofI_lt (k + 1) a
  have q0 := ofI_lt k a
  rw [Int.tdiv_eq_ediv_of_nonneg p1, Int.tmod_eq_emod_of_nonneg p1]
  have hz : bitZ a b k = a.getMsbD k.toNat := by
    rw [bitZ_in (by omega) (by omega), bitAt_first (by omega)]
  rw [hz]
  cases hg : a.getMsbD k.toNat with
  | false =>
    rw [hg] at e
    have e : ofI (k + 1) a = 2 * ofI k a := e.trans (Int.add_zero _)
    refine ⟨inR (by omega) (by omega), inR (by omega) (by omega), beq_iff_eq.2 (by omega), inR (by omega) (by omega), inR (by omega) (by omega), inR (by omega) (by omega), beq_iff_eq.2 (by omega), ?_, trivial, rfl⟩
    rw [beq_iff_eq, beq_eq_false_iff_ne]
    omega
  | true =>
    rw [hg] at e
    have e : ofI (k + 1) a = 2 * ofI k a + 1 := e
    refine ⟨inR (by omega) (by omega), inR (by omega) (by omega), beq_iff_eq.2 (by omega), inR (by omega) (by omega), inR (by omega) (by omega), inR (by omega) (by omega), beq_iff_eq.2 (by omega), ?_, trivial, rfl⟩
    rw [beq_iff_eq, beq_iff_eq]
    omega

end Go.Proofs.Ythfgocpejlhanaa.L1
