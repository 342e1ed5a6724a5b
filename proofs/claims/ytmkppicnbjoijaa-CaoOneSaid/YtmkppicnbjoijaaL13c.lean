/-
  Texts in one: L13G L13H L13I L13Q L5S L13S L13K.
-/
import Derived.Test.YtmkppicnbjoijaaL13a
import Derived.Test.YtmkppicnbjoijaaL8a
import Derived.Test.YtmkppicnbjoijaaL5a
import Derived.Test.YtmkppicnbjoijaaSxQ
import Derived.Test.YtmkppicnbjoijaaShelf
import Derived.Test.YtmkppicnbjoijaaL13b

section
/-
  Layer 13: the laws CaoInserts, CaoLengths, CaoGapTells: their conditions, their proofs.
-/
namespace Go.Proofs.Ytmkppicnbjoijaa.L1
open Go.Sx Go.Sx.M

noncomputable def k13Cs : List (FuncId × Sx.Spec) := [(9, awakeSpec), (10, genSpec [pSl] of8F), (13, genSpec [none] one5F), (14, genSpec [pWr, pRefW] writes12F), (15, genSpec [pSl, pRefS] same8F),
  (11, genSpec [pSl, none] ginsert13F), (16, genSpec [pSl, none] ggap13F), (20, genSpec [pSl] gkept13F),
  (12, genSpec [pRefS, none] rinsert13F), (27, genSpec [pSl] gkept12F), (28, genSpec [pSl, none] ggap12F),
  (25, genSpec [none] erightF), (26, genSpec [pSl, pWr] gapply8F)]

def kgH (l : List Sl) (z : Int) : List Hint := [.fork [] [.fork [] [.fork [] [.fork [] [.fork [] [.dy, .cell (.bool (at' l z.toNat).ok), .fork [] [.fork [.br true] [.br true]]]]]]]]

theorem caoInserts13_run (l : List Sl) (v w m n : BitVec 64) (k j : Int) : run k13Cs Try.prog 3 [.vsl 0 0 (l.map slE).length, .agg [.w64 v, .w64 w, .w64 m, .w64 n, .int .i64 k, .int .i64 j]] [some ⟨false, 61, 7, true, l.map slE⟩] [.fork [] [.br true, .br true, .br true]] isTrue =
    ((Decidable.decide ((↑(List.length (List.map slE l)) : Int) > (20 : Int)) = true → True ∧ true = true) ∧ (Decidable.decide ((↑(List.length (List.map slE l)) : Int) > (20 : Int)) = false → (0 : Nat) + List.length (List.map slE l) ≤ List.length (List.map slE l) ∧ List.take (List.length (List.map slE l)) (List.drop (0 : Nat) (List.map slE l)) = List.map slE (deS (List.take (List.length (List.map slE l)) (List.drop (0 : Nat) (List.map slE l)))) ∧ List.length (deS (List.take (List.length (List.map slE l)) (List.drop (0 : Nat) (List.map slE l)))) ≤ (1000000 : Nat) ∧ (0 : Nat) + List.length (List.map slE l) ≤ List.length (List.map slE l) ∧ List.take (List.length (List.map slE l)) (List.drop (0 : Nat) (List.map slE l)) = List.map slE (deS (List.take (List.length (List.map slE l)) (List.drop (0 : Nat) (List.map slE l)))) ∧ List.length (deS (List.take (List.length (List.map slE l)) (List.drop (0 : Nat) (List.map slE l)))) ≤ (1000000 : Nat) ∧ (0 : Nat) + List.length (List.map slE (deS (List.take (List.length (List.map slE l)) (List.drop (0 : Nat) (List.map slE l))))) ≤ List.length (List.map slE (deS (List.take (List.length (List.map slE l)) (List.drop (0 : Nat) (List.map slE l))))) ∧ List.take (List.length (List.map slE (deS (List.take (List.length (List.map slE l)) (List.drop (0 : Nat) (List.map slE l)))))) (List.drop (0 : Nat) (List.map slE (deS (List.take (List.length (List.map slE l)) (List.drop (0 : Nat) (List.map slE l)))))) = List.map slE (deS (List.take (List.length (List.map slE (deS (List.take (List.length (List.map slE l)) (List.drop (0 : Nat) (List.map slE l)))))) (List.drop (0 : Nat) (List.map slE (deS (List.take (List.length (List.map slE l)) (List.drop (0 : Nat) (List.map slE l)))))))) ∧ List.length (deS (List.take (List.length (List.map slE (deS (List.take (List.length (List.map slE l)) (List.drop (0 : Nat) (List.map slE l)))))) (List.drop (0 : Nat) (List.map slE (deS (List.take (List.length (List.map slE l)) (List.drop (0 : Nat) (List.map slE l)))))))) ≤ (1000000 : Nat) ∧ (0 : Nat) + List.length (List.map wrE (wC (deS (List.take (List.length (List.map slE l)) (List.drop (0 : Nat) (List.map slE l)))) (En.mk v w m n k j))) ≤ List.length (List.map wrE (wC (deS (List.take (List.length (List.map slE l)) (List.drop (0 : Nat) (List.map slE l)))) (En.mk v w m n k j))) ∧ (0 : Nat) + List.length (List.map wrE (wC (deS (List.take (List.length (List.map slE (deS (List.take (List.length (List.map slE l)) (List.drop (0 : Nat) (List.map slE l)))))) (List.drop (0 : Nat) (List.map slE (deS (List.take (List.length (List.map slE l)) (List.drop (0 : Nat) (List.map slE l)))))))) (En.mk v w m n k j))) ≤ List.length (List.map wrE (wC (deS (List.take (List.length (List.map slE (deS (List.take (List.length (List.map slE l)) (List.drop (0 : Nat) (List.map slE l)))))) (List.drop (0 : Nat) (List.map slE (deS (List.take (List.length (List.map slE l)) (List.drop (0 : Nat) (List.map slE l)))))))) (En.mk v w m n k j))) ∧ List.take (List.length (List.map wrE (wC (deS (List.take (List.length (List.map slE l)) (List.drop (0 : Nat) (List.map slE l)))) (En.mk v w m n k j)))) (List.drop (0 : Nat) (List.map wrE (wC (deS (List.take (List.length (List.map slE l)) (List.drop (0 : Nat) (List.map slE l)))) (En.mk v w m n k j)))) = List.map wrE (deW (List.take (List.length (List.map wrE (wC (deS (List.take (List.length (List.map slE l)) (List.drop (0 : Nat) (List.map slE l)))) (En.mk v w m n k j)))) (List.drop (0 : Nat) (List.map wrE (wC (deS (List.take (List.length (List.map slE l)) (List.drop (0 : Nat) (List.map slE l)))) (En.mk v w m n k j)))))) ∧ List.length (deW (List.take (List.length (List.map wrE (wC (deS (List.take (List.length (List.map slE l)) (List.drop (0 : Nat) (List.map slE l)))) (En.mk v w m n k j)))) (List.drop (0 : Nat) (List.map wrE (wC (deS (List.take (List.length (List.map slE l)) (List.drop (0 : Nat) (List.map slE l)))) (En.mk v w m n k j)))))) ≤ (1000000 : Nat) ∧ List.take (List.length (List.map wrE (wC (deS (List.take (List.length (List.map slE (deS (List.take (List.length (List.map slE l)) (List.drop (0 : Nat) (List.map slE l)))))) (List.drop (0 : Nat) (List.map slE (deS (List.take (List.length (List.map slE l)) (List.drop (0 : Nat) (List.map slE l)))))))) (En.mk v w m n k j)))) (List.drop (0 : Nat) (List.map wrE (wC (deS (List.take (List.length (List.map slE (deS (List.take (List.length (List.map slE l)) (List.drop (0 : Nat) (List.map slE l)))))) (List.drop (0 : Nat) (List.map slE (deS (List.take (List.length (List.map slE l)) (List.drop (0 : Nat) (List.map slE l)))))))) (En.mk v w m n k j)))) = List.map wrE (deW (List.take (List.length (List.map wrE (wC (deS (List.take (List.length (List.map slE (deS (List.take (List.length (List.map slE l)) (List.drop (0 : Nat) (List.map slE l)))))) (List.drop (0 : Nat) (List.map slE (deS (List.take (List.length (List.map slE l)) (List.drop (0 : Nat) (List.map slE l)))))))) (En.mk v w m n k j)))) (List.drop (0 : Nat) (List.map wrE (wC (deS (List.take (List.length (List.map slE (deS (List.take (List.length (List.map slE l)) (List.drop (0 : Nat) (List.map slE l)))))) (List.drop (0 : Nat) (List.map slE (deS (List.take (List.length (List.map slE l)) (List.drop (0 : Nat) (List.map slE l)))))))) (En.mk v w m n k j)))))) ∧ List.length (deW (List.take (List.length (List.map wrE (wC (deS (List.take (List.length (List.map slE (deS (List.take (List.length (List.map slE l)) (List.drop (0 : Nat) (List.map slE l)))))) (List.drop (0 : Nat) (List.map slE (deS (List.take (List.length (List.map slE l)) (List.drop (0 : Nat) (List.map slE l)))))))) (En.mk v w m n k j)))) (List.drop (0 : Nat) (List.map wrE (wC (deS (List.take (List.length (List.map slE (deS (List.take (List.length (List.map slE l)) (List.drop (0 : Nat) (List.map slE l)))))) (List.drop (0 : Nat) (List.map slE (deS (List.take (List.length (List.map slE l)) (List.drop (0 : Nat) (List.map slE l)))))))) (En.mk v w m n k j)))))) ≤ (1000000 : Nat) ∧ Decidable.decide (deW (List.take (List.length (List.map wrE (wC (deS (List.take (List.length (List.map slE l)) (List.drop (0 : Nat) (List.map slE l)))) (En.mk v w m n k j)))) (List.drop (0 : Nat) (List.map wrE (wC (deS (List.take (List.length (List.map slE l)) (List.drop (0 : Nat) (List.map slE l)))) (En.mk v w m n k j))))) = deW (List.take (List.length (List.map wrE (wC (deS (List.take (List.length (List.map slE (deS (List.take (List.length (List.map slE l)) (List.drop (0 : Nat) (List.map slE l)))))) (List.drop (0 : Nat) (List.map slE (deS (List.take (List.length (List.map slE l)) (List.drop (0 : Nat) (List.map slE l)))))))) (En.mk v w m n k j)))) (List.drop (0 : Nat) (List.map wrE (wC (deS (List.take (List.length (List.map slE (deS (List.take (List.length (List.map slE l)) (List.drop (0 : Nat) (List.map slE l)))))) (List.drop (0 : Nat) (List.map slE (deS (List.take (List.length (List.map slE l)) (List.drop (0 : Nat) (List.map slE l)))))))) (En.mk v w m n k j)))))) = true ∧ (eC (deS (List.take (List.length (List.map slE l)) (List.drop (0 : Nat) (List.map slE l)))) (En.mk v w m n k j) == eC (deS (List.take (List.length (List.map slE (deS (List.take (List.length (List.map slE l)) (List.drop (0 : Nat) (List.map slE l)))))) (List.drop (0 : Nat) (List.map slE (deS (List.take (List.length (List.map slE l)) (List.drop (0 : Nat) (List.map slE l)))))))) (En.mk v w m n k j)) = true ∧ (0 : Nat) + List.length (List.map slE l) ≤ List.length (List.map slE l) ∧ (0 : Nat) + List.length (List.map slE (deS (List.take (List.length (List.map slE l)) (List.drop (0 : Nat) (List.map slE l))))) ≤ List.length (List.map slE (deS (List.take (List.length (List.map slE l)) (List.drop (0 : Nat) (List.map slE l))))) ∧ List.take (List.length (List.map slE l)) (List.drop (0 : Nat) (List.map slE l)) = List.map slE (deS (List.take (List.length (List.map slE l)) (List.drop (0 : Nat) (List.map slE l)))) ∧ List.length (deS (List.take (List.length (List.map slE l)) (List.drop (0 : Nat) (List.map slE l)))) ≤ (9223372036854775807 : Nat) ∧ List.take (List.length (List.map slE (deS (List.take (List.length (List.map slE l)) (List.drop (0 : Nat) (List.map slE l)))))) (List.drop (0 : Nat) (List.map slE (deS (List.take (List.length (List.map slE l)) (List.drop (0 : Nat) (List.map slE l)))))) = List.map slE (deS (List.take (List.length (List.map slE (deS (List.take (List.length (List.map slE l)) (List.drop (0 : Nat) (List.map slE l)))))) (List.drop (0 : Nat) (List.map slE (deS (List.take (List.length (List.map slE l)) (List.drop (0 : Nat) (List.map slE l)))))))) ∧ List.length (deS (List.take (List.length (List.map slE (deS (List.take (List.length (List.map slE l)) (List.drop (0 : Nat) (List.map slE l)))))) (List.drop (0 : Nat) (List.map slE (deS (List.take (List.length (List.map slE l)) (List.drop (0 : Nat) (List.map slE l)))))))) ≤ (9223372036854775807 : Nat) ∧ Decidable.decide (deS (List.take (List.length (List.map slE l)) (List.drop (0 : Nat) (List.map slE l))) = deS (List.take (List.length (List.map slE (deS (List.take (List.length (List.map slE l)) (List.drop (0 : Nat) (List.map slE l)))))) (List.drop (0 : Nat) (List.map slE (deS (List.take (List.length (List.map slE l)) (List.drop (0 : Nat) (List.map slE l)))))))) = true ∧ True ∧ true = true)) := by kernel_rfl

theorem caoLengths13_run (l : List Sl) (v w m n : BitVec 64) (k j : Int) : run k13Cs Try.prog 7 [.vsl 0 0 (l.map slE).length, .agg [.w64 v, .w64 w, .w64 m, .w64 n, .int .i64 k, .int .i64 j]] [some ⟨false, 61, 7, true, l.map slE⟩] [.fork [] [.fork [] [.br true, .br true, .br true]]] isTrue =
    ((Decidable.decide ((↑(List.length (List.map slE l)) : Int) > (20 : Int)) = true → True ∧ true = true) ∧ (Decidable.decide ((↑(List.length (List.map slE l)) : Int) > (20 : Int)) = false → (0 : Nat) + List.length (List.map slE l) ≤ List.length (List.map slE l) ∧ List.take (List.length (List.map slE l)) (List.drop (0 : Nat) (List.map slE l)) = List.map slE (deS (List.take (List.length (List.map slE l)) (List.drop (0 : Nat) (List.map slE l)))) ∧ List.length (deS (List.take (List.length (List.map slE l)) (List.drop (0 : Nat) (List.map slE l)))) ≤ (1000000 : Nat) ∧ ((!kpS (deS (List.take (List.length (List.map slE l)) (List.drop (0 : Nat) (List.map slE l))))) = true → True ∧ true = true) ∧ ((!kpS (deS (List.take (List.length (List.map slE l)) (List.drop (0 : Nat) (List.map slE l))))) = false → (0 : Nat) + List.length (List.map slE l) ≤ List.length (List.map slE l) ∧ List.take (List.length (List.map slE l)) (List.drop (0 : Nat) (List.map slE l)) = List.map slE (deS (List.take (List.length (List.map slE l)) (List.drop (0 : Nat) (List.map slE l)))) ∧ List.length (deS (List.take (List.length (List.map slE l)) (List.drop (0 : Nat) (List.map slE l)))) ≤ (1000000 : Nat) ∧ (0 : Nat) + List.length (List.map slE l) ≤ List.length (List.map slE l) ∧ List.take (List.length (List.map slE l)) (List.drop (0 : Nat) (List.map slE l)) = List.map slE (deS (List.take (List.length (List.map slE l)) (List.drop (0 : Nat) (List.map slE l)))) ∧ List.length (deS (List.take (List.length (List.map slE l)) (List.drop (0 : Nat) (List.map slE l)))) ≤ (1000000 : Nat) ∧ (0 : Nat) + List.length (List.map slE l) ≤ List.length (List.map slE l) ∧ List.take (List.length (List.map slE l)) (List.drop (0 : Nat) (List.map slE l)) = List.map slE (deS (List.take (List.length (List.map slE l)) (List.drop (0 : Nat) (List.map slE l)))) ∧ List.length (deS (List.take (List.length (List.map slE l)) (List.drop (0 : Nat) (List.map slE l)))) ≤ (1000000 : Nat) ∧ orE (ensS (deS (List.take (List.length (List.map slE l)) (List.drop (0 : Nat) (List.map slE l))))) = true ∧ Decidable.decide ((↑(gfC (deS (List.take (List.length (List.map slE l)) (List.drop (0 : Nat) (List.map slE l)))) (En.mk v w m n k j)) : Int) ≤ if kpS (deS (List.take (List.length (List.map slE l)) (List.drop (0 : Nat) (List.map slE l)))) = true then (↑(gfS (deS (List.take (List.length (List.map slE l)) (List.drop (0 : Nat) (List.map slE l)))) k) : Int) else (0 : Int)) = true ∧ Decidable.decide ((↑(gtC (deS (List.take (List.length (List.map slE l)) (List.drop (0 : Nat) (List.map slE l)))) (En.mk v w m n k j)) : Int) ≥ if kpS (deS (List.take (List.length (List.map slE l)) (List.drop (0 : Nat) (List.map slE l)))) = true then (↑(gtS (deS (List.take (List.length (List.map slE l)) (List.drop (0 : Nat) (List.map slE l)))) k) : Int) else (0 : Int)) = true ∧ True ∧ true = true))) := by kernel_rfl

theorem caoGapTells13_run (l : List Sl) (v w m n : BitVec 64) (k j z : Int) : run k13Cs Try.prog 6 [.vsl 0 0 (l.map slE).length, .agg [.w64 v, .w64 w, .w64 m, .w64 n, .int .i64 k, .int .i64 j], .int .i64 z] [some ⟨false, 61, 7, true, l.map slE⟩] (kgH l z) isTrue =
    ((Decidable.decide ((↑(List.length (List.map slE l)) : Int) > (20 : Int)) = true → True ∧ true = true) ∧ (Decidable.decide ((↑(List.length (List.map slE l)) : Int) > (20 : Int)) = false → (0 : Nat) + List.length (List.map slE l) ≤ List.length (List.map slE l) ∧ List.take (List.length (List.map slE l)) (List.drop 0 (List.map slE l)) = List.map slE (deS (List.take (List.length (List.map slE l)) (List.drop 0 (List.map slE l)))) ∧ List.length (deS (List.take (List.length (List.map slE l)) (List.drop 0 (List.map slE l)))) ≤ (1000000 : Nat) ∧ ((!orE (ensS (deS (List.take (List.length (List.map slE l)) (List.drop 0 (List.map slE l)))))) = true → True ∧ true = true) ∧ ((!orE (ensS (deS (List.take (List.length (List.map slE l)) (List.drop 0 (List.map slE l)))))) = false → ((!rtE (En.mk v w m n k j)) = true → True ∧ true = true) ∧ ((!rtE (En.mk v w m n k j)) = false → (Decidable.decide (z < (0 : Int)) = true → True ∧ true = true) ∧ (Decidable.decide (z < (0 : Int)) = false → (Decidable.decide (z ≥ (↑(List.length (List.map slE l)) : Int)) = true → True ∧ true = true) ∧ (Decidable.decide (z ≥ (↑(List.length (List.map slE l)) : Int)) = false → ((0 : Int) ≤ z ∧ z < (↑(List.length (List.map slE l)) : Int)) ∧ Blk.read Proofs.Try.prog (Blk.mk false (61 : TypeId) 7 true (List.map slE l)) 4 ((0 : Nat) + Int.toNat z) ((0 : Nat) + (0 : Nat)) = some (AV.bool (at' l (Int.toNat z)).1) ∧ ((at' l (Int.toNat z)).1 = true → True ∧ true = true) ∧ ((at' l (Int.toNat z)).1 = false → (0 : Nat) + List.length (List.map slE l) ≤ List.length (List.map slE l) ∧ List.take (List.length (List.map slE l)) (List.drop 0 (List.map slE l)) = List.map slE (deS (List.take (List.length (List.map slE l)) (List.drop 0 (List.map slE l)))) ∧ List.length (deS (List.take (List.length (List.map slE l)) (List.drop 0 (List.map slE l)))) ≤ (1000000 : Nat) ∧ (0 : Nat) + List.length (List.map slE l) ≤ List.length (List.map slE l) ∧ List.take (List.length (List.map slE l)) (List.drop 0 (List.map slE l)) = List.map slE (deS (List.take (List.length (List.map slE l)) (List.drop 0 (List.map slE l)))) ∧ List.length (deS (List.take (List.length (List.map slE l)) (List.drop 0 (List.map slE l)))) ≤ (1000000 : Nat) ∧ [AV.agg [AV.int IntKind.i64 z, AV.bool true, AV.w64 v, AV.w64 w, AV.w64 m, AV.w64 n, AV.int IntKind.i64 k, AV.int IntKind.i64 j]] = [AV.agg [AV.int IntKind.i64 z, AV.bool true, AV.w64 v, AV.w64 w, AV.w64 m, AV.w64 n, AV.int IntKind.i64 k, AV.int IntKind.i64 j]] ∧ List.length (deW [AV.agg [AV.int IntKind.i64 z, AV.bool true, AV.w64 v, AV.w64 w, AV.w64 m, AV.w64 n, AV.int IntKind.i64 k, AV.int IntKind.i64 j]]) ≤ (1000000 : Nat) ∧ (0 : Nat) + List.length (List.map slE (apL (deS (List.take (List.length (List.map slE l)) (List.drop 0 (List.map slE l)))) (deW [AV.agg [AV.int IntKind.i64 z, AV.bool true, AV.w64 v, AV.w64 w, AV.w64 m, AV.w64 n, AV.int IntKind.i64 k, AV.int IntKind.i64 j]]))) ≤ List.length (List.map slE (apL (deS (List.take (List.length (List.map slE l)) (List.drop 0 (List.map slE l)))) (deW [AV.agg [AV.int IntKind.i64 z, AV.bool true, AV.w64 v, AV.w64 w, AV.w64 m, AV.w64 n, AV.int IntKind.i64 k, AV.int IntKind.i64 j]]))) ∧ List.take (List.length (List.map slE (apL (deS (List.take (List.length (List.map slE l)) (List.drop 0 (List.map slE l)))) (deW [AV.agg [AV.int IntKind.i64 z, AV.bool true, AV.w64 v, AV.w64 w, AV.w64 m, AV.w64 n, AV.int IntKind.i64 k, AV.int IntKind.i64 j]])))) (List.drop 0 (List.map slE (apL (deS (List.take (List.length (List.map slE l)) (List.drop 0 (List.map slE l)))) (deW [AV.agg [AV.int IntKind.i64 z, AV.bool true, AV.w64 v, AV.w64 w, AV.w64 m, AV.w64 n, AV.int IntKind.i64 k, AV.int IntKind.i64 j]])))) = List.map slE (deS (List.take (List.length (List.map slE (apL (deS (List.take (List.length (List.map slE l)) (List.drop 0 (List.map slE l)))) (deW [AV.agg [AV.int IntKind.i64 z, AV.bool true, AV.w64 v, AV.w64 w, AV.w64 m, AV.w64 n, AV.int IntKind.i64 k, AV.int IntKind.i64 j]])))) (List.drop 0 (List.map slE (apL (deS (List.take (List.length (List.map slE l)) (List.drop 0 (List.map slE l)))) (deW [AV.agg [AV.int IntKind.i64 z, AV.bool true, AV.w64 v, AV.w64 w, AV.w64 m, AV.w64 n, AV.int IntKind.i64 k, AV.int IntKind.i64 j]])))))) ∧ List.length (deS (List.take (List.length (List.map slE (apL (deS (List.take (List.length (List.map slE l)) (List.drop 0 (List.map slE l)))) (deW [AV.agg [AV.int IntKind.i64 z, AV.bool true, AV.w64 v, AV.w64 w, AV.w64 m, AV.w64 n, AV.int IntKind.i64 k, AV.int IntKind.i64 j]])))) (List.drop 0 (List.map slE (apL (deS (List.take (List.length (List.map slE l)) (List.drop 0 (List.map slE l)))) (deW [AV.agg [AV.int IntKind.i64 z, AV.bool true, AV.w64 v, AV.w64 w, AV.w64 m, AV.w64 n, AV.int IntKind.i64 k, AV.int IntKind.i64 j]])))))) ≤ (1000000 : Nat) ∧ (Decidable.decide (z ≥ (↑(gfC (deS (List.take (List.length (List.map slE l)) (List.drop 0 (List.map slE l)))) (En.mk v w m n k j)) : Int)) = true → (orE (ensS (deS (List.take (List.length (List.map slE (apL (deS (List.take (List.length (List.map slE l)) (List.drop 0 (List.map slE l)))) (deW [AV.agg [AV.int IntKind.i64 z, AV.bool true, AV.w64 v, AV.w64 w, AV.w64 m, AV.w64 n, AV.int IntKind.i64 k, AV.int IntKind.i64 j]])))) (List.drop 0 (List.map slE (apL (deS (List.take (List.length (List.map slE l)) (List.drop 0 (List.map slE l)))) (deW [AV.agg [AV.int IntKind.i64 z, AV.bool true, AV.w64 v, AV.w64 w, AV.w64 m, AV.w64 n, AV.int IntKind.i64 k, AV.int IntKind.i64 j]]))))))) == Decidable.decide (z < (↑(gtC (deS (List.take (List.length (List.map slE l)) (List.drop 0 (List.map slE l)))) (En.mk v w m n k j)) : Int))) = true ∧ True ∧ true = true) ∧ (Decidable.decide (z ≥ (↑(gfC (deS (List.take (List.length (List.map slE l)) (List.drop 0 (List.map slE l)))) (En.mk v w m n k j)) : Int)) = false → (orE (ensS (deS (List.take (List.length (List.map slE (apL (deS (List.take (List.length (List.map slE l)) (List.drop 0 (List.map slE l)))) (deW [AV.agg [AV.int IntKind.i64 z, AV.bool true, AV.w64 v, AV.w64 w, AV.w64 m, AV.w64 n, AV.int IntKind.i64 k, AV.int IntKind.i64 j]])))) (List.drop 0 (List.map slE (apL (deS (List.take (List.length (List.map slE l)) (List.drop 0 (List.map slE l)))) (deW [AV.agg [AV.int IntKind.i64 z, AV.bool true, AV.w64 v, AV.w64 w, AV.w64 m, AV.w64 n, AV.int IntKind.i64 k, AV.int IntKind.i64 j]]))))))) == false) = true ∧ True ∧ true = true)))))))) := by kernel_rfl

theorem caoInserts13_law (l : List Sl) (v w m n : BitVec 64) (k j : Int) : ∃ hs, run k13Cs Try.prog 3 [.vsl 0 0 (l.map slE).length, .agg [.w64 v, .w64 w, .w64 m, .w64 n, .int .i64 k, .int .i64 j]] [some ⟨false, 61, 7, true, l.map slE⟩] hs isTrue := by
  refine ⟨[.fork [] [.br true, .br true, .br true]], ?_⟩
  rw [caoInserts13_run]
  refine ⟨fun _ => ⟨trivial, rfl⟩, fun hl => ?_⟩
  have hl : l.length ≤ 20 := by have := of_decide_eq_false hl; rw [List.length_map] at this; omega
  simp only [whole_row, deS_map, deW_map, zLe, true_and, and_true, eq_self, beq_self_eq_true, eq_true (show l.length ≤ 1000000 by omega)]
  have hw := wC_len l ⟨v, w, m, n, k, j⟩
  exact ⟨by omega, by omega, rfl, by omega, by omega, rfl⟩

theorem caoLengths13_law (l : List Sl) (v w m n : BitVec 64) (k j : Int) : ∃ hs, run k13Cs Try.prog 7 [.vsl 0 0 (l.map slE).length, .agg [.w64 v, .w64 w, .w64 m, .w64 n, .int .i64 k, .int .i64 j]] [some ⟨false, 61, 7, true, l.map slE⟩] hs isTrue := by
  refine ⟨[.fork [] [.fork [] [.br true, .br true, .br true]]], ?_⟩
  rw [caoLengths13_run]
  refine ⟨fun _ => ⟨trivial, rfl⟩, fun hl => ?_⟩
  have hl : l.length ≤ 20 := by have := of_decide_eq_false hl; rw [List.length_map] at this; omega
  simp only [whole_row, deS_map, zLe, true_and, and_true, eq_self, eq_true (show l.length ≤ 1000000 by omega)]
  refine ⟨fun _ => trivial, fun h => ?_⟩
  have h := notF h
  obtain ⟨g1, g2⟩ := gaps_in l ⟨v, w, m, n, k, j⟩
  simp only [h, if_true, decide_eq_true_eq]
  exact ⟨kp_order (kpS_iff.1 h), Int.ofNat_le.2 g1, Int.ofNat_le.2 g2⟩

theorem caoGapTells13_law (l : List Sl) (v w m n : BitVec 64) (k j z : Int) : ∃ hs, run k13Cs Try.prog 6 [.vsl 0 0 (l.map slE).length, .agg [.w64 v, .w64 w, .w64 m, .w64 n, .int .i64 k, .int .i64 j], .int .i64 z] [some ⟨false, 61, 7, true, l.map slE⟩] hs isTrue := by
  refine ⟨(kgH l z), ?_⟩
  rw [caoGapTells13_run]
  refine ⟨fun _ => ⟨trivial, rfl⟩, fun hl => ?_⟩
  have hl : l.length ≤ 20 := by have := of_decide_eq_false hl; rw [List.length_map] at this; omega
  simp only [whole_row, deS_map, zLe, true_and, and_true, eq_self, eq_true (show l.length ≤ 1000000 by omega)]
  refine ⟨fun _ => trivial, fun hk => ⟨fun _ => trivial, fun hr => ⟨fun _ => trivial, fun h0 => ⟨fun _ => trivial, fun h1 => ?_⟩⟩⟩⟩
  have hk := notF hk
  have hr := notF hr
  have h0 := of_decide_eq_false h0
  have h1 := of_decide_eq_false h1
  have B : 0 ≤ z ∧ z < ((l.map slE).length : Int) := by omega
  have hz : z.toNat < l.length := by rw [List.length_map] at B; omega
  have hA : apL l [⟨z, ⟨true, ⟨v, w, m, n, k, j⟩⟩⟩] = l.set z.toNat ⟨true, ⟨v, w, m, n, k, j⟩⟩ := by
    rw [apL_one]
    unfold apS
    rw [if_pos (by unfold mayS rtS; rw [inS_iff.2 ⟨B.1, by rw [List.length_map] at B; exact B.2⟩, hr]; rfl)]
  refine ⟨B, read_rows B.1 B.2 (sl_ok _), fun _ => trivial, fun he => ?_⟩
  have hs := orS_set (orS_iff.1 hk) hz he ⟨v, w, m, n, k, j⟩
  have hD : deW [.agg [.int .i64 z, .bool true, .w64 v, .w64 w, .w64 m, .w64 n, .int .i64 k, .int .i64 j]] = [⟨z, ⟨true, ⟨v, w, m, n, k, j⟩⟩⟩] := rfl
  simp only [hD, hA, hs, List.length_set]
  refine ⟨by show 1 ≤ 1000000; omega, by omega, fun h => ?_, fun h => ?_⟩
  · have h := of_decide_eq_true h
    rw [decide_eq_true (show gfC l ⟨v, w, m, n, k, j⟩ ≤ z.toNat by omega), Bool.true_and, beq_iff_eq]
    exact decide_eq_decide.2 (by omega)
  · have h := of_decide_eq_false h
    rw [decide_eq_false (show ¬ gfC l ⟨v, w, m, n, k, j⟩ ≤ z.toNat by omega)]
    rfl

end Go.Proofs.Ytmkppicnbjoijaa.L1
end

section
/-
  Layer 13: the law's prefixes, right.
-/
namespace Go.Proofs.Ytmkppicnbjoijaa.L1
open Go.Sx Go.Sx.M

/-- Is it a prefix's entry, one that may be? -/
def pfB (x : En) : Bool := rtE x && (x.v == x.v &&& mkW x.len &&& mkW (clamp x.len) && x.w == x.w &&& mkW (x.len - 64) &&& mkW (clamp x.len - 64) && (x.m == mkW (clamp x.len) && x.n == mkW (clamp x.len - 64)))

def px13St (l : List En) (p : Nat) : St := ⟨[.any, .any, .any, .any, .any, .vsl 0 0 (l.map enE).length, .int .i64 (l.map enE).length, .int .i64 p, .any, .any, .any, .any, .any, .any, .any, .any, .any, .any, .any, .any, .any, .any, .any, .any, .any, .any, .any], [some ⟨false, 29, 6, true, l.map enE⟩]⟩
def px13M0 : Modes := ⟨[0, 0, 0, 0, 0, 1, 1, 2, 0, 0, 0, 0, 0, 0, 0, 0, 0, 0, 0, 0, 0, 0, 0, 0, 0, 0, 0], [], [], [], []⟩
def px13M : Modes := ⟨[0, 0, 0, 0, 0, 1, 1, 1, 0, 0, 0, 0, 0, 0, 0, 0, 0, 0, 0, 0, 0, 0, 0, 0, 0, 0, 0], [], [], [], []⟩
def px13M' : Modes := ⟨[0, 0, 2, 0, 0, 0, 0, 0, 0, 0, 0, 0, 0, 0, 0, 0, 0, 0, 0, 0, 0, 0, 0, 0, 0, 0, 0], [], [], [], []⟩
def px13I (l : List En) (p : Nat) : Prop := p ≤ l.length ∧ ∀ j, j < p → pfB (at' l j) = true
def px13H (l : List En) : List Hint := [.linv _ 0 (px13St l) (px13I l) (fun p => l.length + 1 - p) px13M0 px13M px13M' (fun _ => []) fun p =>
  [.fork [.dy, .cell (enE (at' l p)), .fork [] [.fork [] [.nw]]] []]]

def rg13St (l : List Sl) (p : Nat) : St := ⟨[.any, .any, .any, .any, .any, .vsl 0 0 (l.map slE).length, .int .i64 (l.map slE).length, .int .i64 p, .any, .any, .any, .any, .any, .any, .any, .any, .any, .any, .any, .any, .any, .any, .any, .any, .any, .any], [some ⟨false, 61, 7, true, l.map slE⟩]⟩
def rg13M0 : Modes := ⟨[0, 0, 0, 0, 0, 1, 1, 2, 0, 0, 0, 0, 0, 0, 0, 0, 0, 0, 0, 0, 0, 0, 0, 0, 0, 0], [], [], [], []⟩
def rg13M : Modes := ⟨[0, 0, 0, 0, 0, 1, 1, 1, 0, 0, 0, 0, 0, 0, 0, 0, 0, 0, 0, 0, 0, 0, 0, 0, 0, 0], [], [], [], []⟩
def rg13M' : Modes := ⟨[0, 0, 2, 0, 0, 0, 0, 0, 0, 0, 0, 0, 0, 0, 0, 0, 0, 0, 0, 0, 0, 0, 0, 0, 0, 0], [], [], [], []⟩
def rg13I (l : List Sl) (p : Nat) : Prop := p ≤ l.length ∧ ∀ j, j < p → rtS (at' l j) = true
def rg13H (l : List Sl) : List Hint := [.linv _ 0 (rg13St l) (rg13I l) (fun p => l.length + 1 - p) rg13M0 rg13M rg13M' (fun _ => []) fun p =>
  [.fork [.dy, .cell (slE (at' l p)), .fork [.fork [] [.fork [] [.nw]]] [.nw]] []]]

theorem en_whole13 (x : En) : partOf Try.prog 29 (enE x).cells 0 = some (enE x) := by kernel_rfl

def prefixes13F : List Arg → (Res → Prop) → Prop
  | [.row r_l], R => r_l = (deE r_l).map enE ∧ (deE r_l).length ≤ 1000000 ∧ R (.v (.bool ((deE r_l).all pfB)))
  | _, _ => False

noncomputable def prefixes13Cs : List (FuncId × Sx.Spec) := [(25, genSpec [none] erightF),
  (45, genSpec [none, none] makeF),
  (44, genSpec [none] wofF)]

theorem prefixes13_run (l : List En) (r : AV) : run prefixes13Cs Try.prog 21 [.vsl 0 0 (l.map enE).length] [some ⟨false, (pEn.getD (0, 0)).1, (pEn.getD (0, 0)).2, true, (l.map enE)⟩] (px13H l) (yields (.v r)) =
    ((St.mk [.any, .any, .any, .any, .any, AV.vsl 0 0 (List.length (List.map enE l)), AV.int IntKind.i64 (↑(List.length (List.map enE l)) : Int), AV.int IntKind.i64 0, .any, .any, .any, .any, .any, .any, .any, .any, .any, .any, .any, .any, .any, .any, .any, .any, .any, .any, .any] [some (Blk.mk false (29 : TypeId) 6 true (List.map enE l))] = px13St l 0 ∧ px13I l 0) ∧ ∀ (p : Nat), px13I l p → (Decidable.decide ((↑p : Int) < (↑(List.length (List.map enE l)) : Int)) = true → ((0 : Int) ≤ (↑p : Int) ∧ (↑p : Int) < (↑(List.length (List.map enE l)) : Int)) ∧ Blk.read Proofs.Try.prog (Blk.mk false (29 : TypeId) 6 true (List.map enE l)) 29 ((0 : Nat) + Int.toNat (↑p : Int)) 0 = some (AV.agg [AV.w64 (at' l p).1, AV.w64 (at' l p).2, AV.w64 (at' l p).3, AV.w64 (at' l p).4, AV.int IntKind.i64 (at' l p).5, AV.int IntKind.i64 (at' l p).6]) ∧ ((!rtE (En.mk (at' l p).1 (at' l p).2 (at' l p).3 (at' l p).4 (at' l p).5 (at' l p).6)) = true → AV.bool false = r) ∧ ((!rtE (En.mk (at' l p).1 (at' l p).2 (at' l p).3 (at' l p).4 (at' l p).5 (at' l p).6)) = false → ((!((at' l p).1 == (at' l p).1 &&& mkW (at' l p).5 &&& mkW (clamp (at' l p).5) && (at' l p).2 == (at' l p).2 &&& mkW ((at' l p).5 - (64 : Int)) &&& mkW (clamp (at' l p).5 - (64 : Int)) && ((at' l p).3 == mkW (clamp (at' l p).5) && (at' l p).4 == mkW (clamp (at' l p).5 - (64 : Int))))) = true → AV.bool false = r) ∧ ((!((at' l p).1 == (at' l p).1 &&& mkW (at' l p).5 &&& mkW (clamp (at' l p).5) && (at' l p).2 == (at' l p).2 &&& mkW ((at' l p).5 - (64 : Int)) &&& mkW (clamp (at' l p).5 - (64 : Int)) && ((at' l p).3 == mkW (clamp (at' l p).5) && (at' l p).4 == mkW (clamp (at' l p).5 - (64 : Int))))) = false → inRange IntKind.i64 ((↑p : Int) + (1 : Int)) ∧ ∃ (p' : Nat), St.mk [.any, .any, .any, .any, .any, AV.vsl 0 0 (List.length (List.map enE l)), AV.int IntKind.i64 (↑(List.length (List.map enE l)) : Int), AV.int IntKind.i64 ((↑p : Int) + (1 : Int)), .any, .any, .any, .any, .any, .any, .any, .any, .any, .any, .any, .any, .any, .any, .any, .any, .any, .any, .any] [some (Blk.mk false (29 : TypeId) 6 true (List.map enE l))] = px13St l p' ∧ px13I l p' ∧ List.length l + (1 : Nat) - p' < List.length l + (1 : Nat) - p))) ∧ (Decidable.decide ((↑p : Int) < (↑(List.length (List.map enE l)) : Int)) = false → AV.bool true = r)) := by kernel_rfl

theorem prefixes13Cs_ok : ∀ e ∈ prefixes13Cs, SpecOK Try.prog e.1 e.2 := by
  intro e he
  simp only [prefixes13Cs, List.mem_cons, List.not_mem_nil, or_false] at he
  rcases he with rfl | rfl | rfl
  · exact eright_ok
  · exact pmake_ok
  · exact wof_ok

theorem prefixes13_ok : SpecOK Try.prog 21 (genSpec [pEn] prefixes13F) := by
  refine genSpec_ok (run_ok (l := prefixes13Cs) prefixes13Cs_ok mixed noNG) fun l R hF => ?_
  unfold prefixes13F at hF
  split at hF
  · rename_i r_l
    obtain ⟨hr_l, hl, hF⟩ := hF
    generalize deE r_l = l at hr_l hl hF
    subst hr_l
    refine ⟨_, hF, rfl, (px13H l), ?_⟩
    show run prefixes13Cs Try.prog _ [.vsl 0 0 (l.map enE).length] [some ⟨false, (pEn.getD (0, 0)).1, (pEn.getD (0, 0)).2, true, (l.map enE)⟩] _ _
    rw [prefixes13_run]
    refine ⟨⟨rfl, Nat.zero_le _, fun j hj => absurd hj (Nat.not_lt_zero _)⟩, ?_⟩
    rintro p ⟨h1, h2⟩
    refine ⟨fun hlt => ?_, fun hge => ?_⟩
    · have hp : p < l.length := by simp only [decide_eq_true_eq, List.length_map] at hlt; omega
      have B : 0 ≤ (p : Int) ∧ (p : Int) < ((l.map enE).length : Int) := by rw [List.length_map]; omega
      have no : pfB (at' l p) = false → l.all pfB = false := fun h => by
        rw [List.all_eq_false]
        exact ⟨at' l p, at_mem hp, by rw [h]; simp⟩
      refine ⟨B, read_rows B.1 B.2 (en_whole13 _), fun h => ?_, fun h => ⟨fun h' => ?_, fun h' => ⟨inR (by omega) (by omega), p + 1, rfl, ⟨hp, up h2 ?_⟩, by omega⟩⟩⟩
      · rw [no (by unfold pfB; rw [show rtE (at' l p) = false from notTT h]; rfl)]
      · rw [no (by unfold pfB; rw [notTT h', Bool.and_false])]
      · unfold pfB
        rw [show rtE (at' l p) = true from notF h, notF h']; rfl
    · have hp : p = l.length := by simp only [decide_eq_false_iff_not, List.length_map] at hge; omega
      subst hp
      rw [List.all_eq_true.2 fun x hx => ?_]
      obtain ⟨i, hi, rfl⟩ := List.getElem_of_mem hx
      have := h2 i hi
      rwa [at_eq hi] at this
  · exact hF.elim


def right13F : List Arg → (Res → Prop) → Prop
  | [.row r_l], R => r_l = (deS r_l).map slE ∧ (deS r_l).length ≤ 1000000 ∧ R (.v (.bool ((deS r_l).all rtS)))
  | _, _ => False

noncomputable def right13Cs : List (FuncId × Sx.Spec) := [(25, genSpec [none] erightF)]

theorem right13_run (l : List Sl) (r : AV) : run right13Cs Try.prog 23 [.vsl 0 0 (l.map slE).length] [some ⟨false, (pSl.getD (0, 0)).1, (pSl.getD (0, 0)).2, true, (l.map slE)⟩] (rg13H l) (yields (.v r)) =
    ((St.mk [.any, .any, .any, .any, .any, AV.vsl 0 0 (List.length (List.map slE l)), AV.int IntKind.i64 (↑(List.length (List.map slE l)) : Int), AV.int IntKind.i64 0, .any, .any, .any, .any, .any, .any, .any, .any, .any, .any, .any, .any, .any, .any, .any, .any, .any, .any] [some (Blk.mk false (61 : TypeId) 7 true (List.map slE l))] = rg13St l 0 ∧ rg13I l 0) ∧ ∀ (p : Nat), rg13I l p → (Decidable.decide ((↑p : Int) < (↑(List.length (List.map slE l)) : Int)) = true → ((0 : Int) ≤ (↑p : Int) ∧ (↑p : Int) < (↑(List.length (List.map slE l)) : Int)) ∧ Blk.read Proofs.Try.prog (Blk.mk false (61 : TypeId) 7 true (List.map slE l)) 61 ((0 : Nat) + Int.toNat (↑p : Int)) 0 = some (AV.agg [AV.bool (at' l p).1, AV.w64 (Sl.e (at' l p)).1, AV.w64 (Sl.e (at' l p)).2, AV.w64 (Sl.e (at' l p)).3, AV.w64 (Sl.e (at' l p)).4, AV.int IntKind.i64 (Sl.e (at' l p)).5, AV.int IntKind.i64 (Sl.e (at' l p)).6]) ∧ ((!((at' l p).1 == false && ((Sl.e (at' l p)).1 == BitVec.ofInt 64 0 && (Sl.e (at' l p)).2 == BitVec.ofInt 64 0 && ((Sl.e (at' l p)).3 == BitVec.ofInt 64 0 && (Sl.e (at' l p)).4 == BitVec.ofInt 64 0) && ((Sl.e (at' l p)).5 == (0 : Int) && (Sl.e (at' l p)).6 == (0 : Int))))) = true → ((!(at' l p).1) = true → AV.bool false = r) ∧ ((!(at' l p).1) = false → ((!rtE (En.mk (Sl.e (at' l p)).1 (Sl.e (at' l p)).2 (Sl.e (at' l p)).3 (Sl.e (at' l p)).4 (Sl.e (at' l p)).5 (Sl.e (at' l p)).6)) = true → AV.bool false = r) ∧ ((!rtE (En.mk (Sl.e (at' l p)).1 (Sl.e (at' l p)).2 (Sl.e (at' l p)).3 (Sl.e (at' l p)).4 (Sl.e (at' l p)).5 (Sl.e (at' l p)).6)) = false → inRange IntKind.i64 ((↑p : Int) + (1 : Int)) ∧ ∃ (p' : Nat), St.mk [.any, .any, .any, .any, .any, AV.vsl 0 0 (List.length (List.map slE l)), AV.int IntKind.i64 (↑(List.length (List.map slE l)) : Int), AV.int IntKind.i64 ((↑p : Int) + (1 : Int)), .any, .any, .any, .any, .any, .any, .any, .any, .any, .any, .any, .any, .any, .any, .any, .any, .any, .any] [some (Blk.mk false (61 : TypeId) 7 true (List.map slE l))] = rg13St l p' ∧ rg13I l p' ∧ List.length l + (1 : Nat) - p' < List.length l + (1 : Nat) - p))) ∧ ((!((at' l p).1 == false && ((Sl.e (at' l p)).1 == BitVec.ofInt 64 0 && (Sl.e (at' l p)).2 == BitVec.ofInt 64 0 && ((Sl.e (at' l p)).3 == BitVec.ofInt 64 0 && (Sl.e (at' l p)).4 == BitVec.ofInt 64 0) && ((Sl.e (at' l p)).5 == (0 : Int) && (Sl.e (at' l p)).6 == (0 : Int))))) = false → inRange IntKind.i64 ((↑p : Int) + (1 : Int)) ∧ ∃ (p' : Nat), St.mk [.any, .any, .any, .any, .any, AV.vsl 0 0 (List.length (List.map slE l)), AV.int IntKind.i64 (↑(List.length (List.map slE l)) : Int), AV.int IntKind.i64 ((↑p : Int) + (1 : Int)), .any, .any, .any, .any, .any, .any, .any, .any, .any, .any, .any, .any, .any, .any, .any, .any, .any, .any] [some (Blk.mk false (61 : TypeId) 7 true (List.map slE l))] = rg13St l p' ∧ rg13I l p' ∧ List.length l + (1 : Nat) - p' < List.length l + (1 : Nat) - p)) ∧ (Decidable.decide ((↑p : Int) < (↑(List.length (List.map slE l)) : Int)) = false → AV.bool true = r)) := by kernel_rfl

theorem right13Cs_ok : ∀ e ∈ right13Cs, SpecOK Try.prog e.1 e.2 := by
  intro e he
  simp only [right13Cs, List.mem_cons, List.not_mem_nil, or_false] at he
  rcases he with rfl
  · exact eright_ok

theorem right13_ok : SpecOK Try.prog 23 (genSpec [pSl] right13F) := by
  refine genSpec_ok (run_ok (l := right13Cs) right13Cs_ok mixed noNG) fun l R hF => ?_
  unfold right13F at hF
  split at hF
  · rename_i r_l
    obtain ⟨hr_l, hl, hF⟩ := hF
    generalize deS r_l = l at hr_l hl hF
    subst hr_l
    refine ⟨_, hF, rfl, (rg13H l), ?_⟩
    show run right13Cs Try.prog _ [.vsl 0 0 (l.map slE).length] [some ⟨false, (pSl.getD (0, 0)).1, (pSl.getD (0, 0)).2, true, (l.map slE)⟩] _ _
    rw [right13_run]
    simp only [eq_zS]
    refine ⟨⟨rfl, Nat.zero_le _, fun j hj => absurd hj (Nat.not_lt_zero _)⟩, ?_⟩
    rintro p ⟨h1, h2⟩
    refine ⟨fun hlt => ?_, fun hge => ?_⟩
    · have hp : p < l.length := by simp only [decide_eq_true_eq, List.length_map] at hlt; omega
      have B : 0 ≤ (p : Int) ∧ (p : Int) < ((l.map slE).length : Int) := by rw [List.length_map]; omega
      have no : rtS (at' l p) = false → l.all rtS = false := fun h => by
        rw [List.all_eq_false]
        exact ⟨at' l p, at_mem hp, by rw [h]; simp⟩
      refine ⟨B, read_rows B.1 B.2 (sl_whole _), fun h => ⟨fun h' => ?_, fun h' => ⟨fun h3 => ?_, fun h3 => ⟨inR (by omega) (by omega), p + 1, rfl, ⟨hp, up h2 ?_⟩, by omega⟩⟩⟩, fun h => ⟨inR (by omega) (by omega), p + 1, rfl, ⟨hp, up h2 ?_⟩, by omega⟩⟩
      · rw [no (by unfold rtS; rw [notTT h, notTT h']; rfl)]
      · rw [no (by unfold rtS; rw [notTT h, show rtE (at' l p).e = false from notTT h3, Bool.and_false]; rfl)]
      · unfold rtS
        rw [notF h', show rtE (at' l p).e = true from notF h3, Bool.and_self, Bool.or_true]
      · unfold rtS
        rw [notF h]; rfl
    · have hp : p = l.length := by simp only [decide_eq_false_iff_not, List.length_map] at hge; omega
      subst hp
      rw [List.all_eq_true.2 fun x hx => ?_]
      obtain ⟨i, hi, rfl⟩ := List.getElem_of_mem hx
      have := h2 i hi
      rwa [at_eq hi] at this
  · exact hF.elim


end Go.Proofs.Ytmkppicnbjoijaa.L1
end

section
/-
  Layer 13: the laws CaoGaps, CaoFull: their conditions, their proofs.
-/
namespace Go.Proofs.Ytmkppicnbjoijaa.L1
open Go.Sx Go.Sx.M

noncomputable def l13Cs : List (FuncId × Sx.Spec) := [(21, genSpec [pEn] prefixes13F), (23, genSpec [pSl] right13F), (22, genSpec [pSl] gentries8F), (24, genSpec [pSl] gfree8F),
  (17, genSpec [pRefS, none] rgap13F), (18, genSpec [pRefE] rorderedF), (19, genSpec [pRefS] rentries8F), (29, genSpec [none, none] wmeetF)] ++ k13Cs

def apE13 (l : List Sl) (x : En) : List AV := (ensS l ++ [x]).map enE
def cgH (l : List Sl) (x : En) : List Hint := [.fork [] [.br false, .br false, .br false, .fork [] [.rows (apE13 l x), .fork [] [.br true]]]]
def cfH (l : List Sl) (x : En) : List Hint := [.fork [] [.fork [] [.fork [] [.rows (apE13 l x), .fork [] [.fork [.br true, .br true] [.br true, .br true]]]]]]

theorem pf_of13 {x : En} (h : pfB x = true) : PfE x := by
  unfold pfB rtE at h
  simp only [Bool.and_eq_true, decide_eq_true_eq, beq_iff_eq] at h
  obtain ⟨⟨_, h0, h1, _⟩, _, h2, h3⟩ := h
  have ec : clamp x.len = x.len := by unfold clamp; omega
  rw [ec] at h2 h3
  intro k hk
  rw [h2, h3, bitAt_mk _ hk]

theorem all_pf13 {l : List Sl} {x : En} (h : (ensS l ++ [x]).all pfB = true) : PfE x ∧ ∀ j, j < l.length → (at' l j).ok = true → PfE (at' l j).e := by
  rw [List.all_eq_true] at h
  refine ⟨pf_of13 (h x (List.mem_append_right _ (List.mem_singleton.2 rfl))), fun j hj ho => pf_of13 (h _ (List.mem_append_left _ ?_))⟩
  unfold ensS
  exact List.mem_map.2 ⟨at' l j, List.mem_filter.2 ⟨at_mem hj, ho⟩, rfl⟩

theorem ap_take13 (l : List Sl) (x : En) : List.take ((ensS l).length + 1) (List.drop 0 (apE13 l x)) = (ensS l ++ [x]).map enE := take_all (by rw [List.length_append]; rfl)
theorem ap_is13 (l : List Sl) (x : En) : List.take (ensS l).length ((ensS l).map enE) ++ [enE x] = apE13 l x := by
  rw [List.take_of_length_le (by rw [List.length_map]; exact Nat.le_refl _)]
  unfold apE13
  rw [List.map_append]; rfl
theorem ap_len13 (l : List Sl) (x : En) : (apE13 l x).length = (ensS l).length + 1 := by
  unfold apE13
  rw [List.length_map, List.length_append]; rfl

theorem caoGaps13_run (l : List Sl) (v w m n : BitVec 64) (k j : Int) : run l13Cs Try.prog 4 [.vsl 0 0 (l.map slE).length, .agg [.w64 v, .w64 w, .w64 m, .w64 n, .int .i64 k, .int .i64 j]] [some ⟨false, 61, 7, true, l.map slE⟩] (cgH l ⟨v, w, m, n, k, j⟩) isTrue =
    ((Decidable.decide ((↑(List.length (List.map slE l)) : Int) > (20 : Int)) = true → True ∧ true = true) ∧ (Decidable.decide ((↑(List.length (List.map slE l)) : Int) > (20 : Int)) = false → (0 : Nat) + List.length (List.map slE l) ≤ List.length (List.map slE l) ∧ List.take (List.length (List.map slE l)) (List.drop 0 (List.map slE l)) = List.map slE (deS (List.take (List.length (List.map slE l)) (List.drop 0 (List.map slE l)))) ∧ List.length (deS (List.take (List.length (List.map slE l)) (List.drop 0 (List.map slE l)))) ≤ (1000000 : Nat) ∧ (0 : Nat) + List.length (List.map slE l) ≤ List.length (List.map slE l) ∧ List.take (List.length (List.map slE l)) (List.drop 0 (List.map slE l)) = List.map slE (deS (List.take (List.length (List.map slE l)) (List.drop 0 (List.map slE l)))) ∧ List.length (deS (List.take (List.length (List.map slE l)) (List.drop 0 (List.map slE l)))) ≤ (1000000 : Nat) ∧ (0 : Nat) + List.length (List.map slE (deS (List.take (List.length (List.map slE l)) (List.drop 0 (List.map slE l))))) ≤ List.length (List.map slE (deS (List.take (List.length (List.map slE l)) (List.drop 0 (List.map slE l))))) ∧ List.take (List.length (List.map slE (deS (List.take (List.length (List.map slE l)) (List.drop 0 (List.map slE l)))))) (List.drop 0 (List.map slE (deS (List.take (List.length (List.map slE l)) (List.drop 0 (List.map slE l)))))) = List.map slE (deS (List.take (List.length (List.map slE (deS (List.take (List.length (List.map slE l)) (List.drop 0 (List.map slE l)))))) (List.drop 0 (List.map slE (deS (List.take (List.length (List.map slE l)) (List.drop 0 (List.map slE l)))))))) ∧ List.length (deS (List.take (List.length (List.map slE (deS (List.take (List.length (List.map slE l)) (List.drop 0 (List.map slE l)))))) (List.drop 0 (List.map slE (deS (List.take (List.length (List.map slE l)) (List.drop 0 (List.map slE l)))))))) ≤ (1000000 : Nat) ∧ (0 : Nat) + List.length (List.map slE (deS (List.take (List.length (List.map slE l)) (List.drop 0 (List.map slE l))))) ≤ List.length (List.map slE (deS (List.take (List.length (List.map slE l)) (List.drop 0 (List.map slE l))))) ∧ List.take (List.length (List.map slE (deS (List.take (List.length (List.map slE l)) (List.drop 0 (List.map slE l)))))) (List.drop 0 (List.map slE (deS (List.take (List.length (List.map slE l)) (List.drop 0 (List.map slE l)))))) = List.map slE (deS (List.take (List.length (List.map slE (deS (List.take (List.length (List.map slE l)) (List.drop 0 (List.map slE l)))))) (List.drop 0 (List.map slE (deS (List.take (List.length (List.map slE l)) (List.drop 0 (List.map slE l)))))))) ∧ List.length (deS (List.take (List.length (List.map slE (deS (List.take (List.length (List.map slE l)) (List.drop 0 (List.map slE l)))))) (List.drop 0 (List.map slE (deS (List.take (List.length (List.map slE l)) (List.drop 0 (List.map slE l)))))))) ≤ (1000000 : Nat) ∧ (0 : Nat) + List.length (List.map enE (ensS (deS (List.take (List.length (List.map slE (deS (List.take (List.length (List.map slE l)) (List.drop 0 (List.map slE l)))))) (List.drop 0 (List.map slE (deS (List.take (List.length (List.map slE l)) (List.drop 0 (List.map slE l)))))))))) ≤ List.length (List.map enE (ensS (deS (List.take (List.length (List.map slE (deS (List.take (List.length (List.map slE l)) (List.drop 0 (List.map slE l)))))) (List.drop 0 (List.map slE (deS (List.take (List.length (List.map slE l)) (List.drop 0 (List.map slE l)))))))))) ∧ List.take (List.length (List.map enE (ensS (deS (List.take (List.length (List.map slE (deS (List.take (List.length (List.map slE l)) (List.drop 0 (List.map slE l)))))) (List.drop 0 (List.map slE (deS (List.take (List.length (List.map slE l)) (List.drop 0 (List.map slE l))))))))))) (List.drop 0 (List.map enE (ensS (deS (List.take (List.length (List.map slE (deS (List.take (List.length (List.map slE l)) (List.drop 0 (List.map slE l)))))) (List.drop 0 (List.map slE (deS (List.take (List.length (List.map slE l)) (List.drop 0 (List.map slE l))))))))))) = List.map enE (deE (List.take (List.length (List.map enE (ensS (deS (List.take (List.length (List.map slE (deS (List.take (List.length (List.map slE l)) (List.drop 0 (List.map slE l)))))) (List.drop 0 (List.map slE (deS (List.take (List.length (List.map slE l)) (List.drop 0 (List.map slE l))))))))))) (List.drop 0 (List.map enE (ensS (deS (List.take (List.length (List.map slE (deS (List.take (List.length (List.map slE l)) (List.drop 0 (List.map slE l)))))) (List.drop 0 (List.map slE (deS (List.take (List.length (List.map slE l)) (List.drop 0 (List.map slE l))))))))))))) ∧ List.length (deE (List.take (List.length (List.map enE (ensS (deS (List.take (List.length (List.map slE (deS (List.take (List.length (List.map slE l)) (List.drop 0 (List.map slE l)))))) (List.drop 0 (List.map slE (deS (List.take (List.length (List.map slE l)) (List.drop 0 (List.map slE l))))))))))) (List.drop 0 (List.map enE (ensS (deS (List.take (List.length (List.map slE (deS (List.take (List.length (List.map slE l)) (List.drop 0 (List.map slE l)))))) (List.drop 0 (List.map slE (deS (List.take (List.length (List.map slE l)) (List.drop 0 (List.map slE l))))))))))))) ≤ (9223372036854775807 : Nat) ∧ ((↑(gfC (deS (List.take (List.length (List.map slE l)) (List.drop 0 (List.map slE l)))) (En.mk v w m n k j)) : Int) != (↑(gfC (deS (List.take (List.length (List.map slE (deS (List.take (List.length (List.map slE l)) (List.drop 0 (List.map slE l)))))) (List.drop 0 (List.map slE (deS (List.take (List.length (List.map slE l)) (List.drop 0 (List.map slE l)))))))) (En.mk v w m n k j)) : Int)) = false ∧ ((↑(gtC (deS (List.take (List.length (List.map slE l)) (List.drop 0 (List.map slE l)))) (En.mk v w m n k j)) : Int) != (↑(gtC (deS (List.take (List.length (List.map slE (deS (List.take (List.length (List.map slE l)) (List.drop 0 (List.map slE l)))))) (List.drop 0 (List.map slE (deS (List.take (List.length (List.map slE l)) (List.drop 0 (List.map slE l)))))))) (En.mk v w m n k j)) : Int)) = false ∧ (0 : Nat) + List.length (List.map slE l) ≤ List.length (List.map slE l) ∧ List.take (List.length (List.map slE l)) (List.drop 0 (List.map slE l)) = List.map slE (deS (List.take (List.length (List.map slE l)) (List.drop 0 (List.map slE l)))) ∧ List.length (deS (List.take (List.length (List.map slE l)) (List.drop 0 (List.map slE l)))) ≤ (1000000 : Nat) ∧ (!orE (ensS (deS (List.take (List.length (List.map slE l)) (List.drop 0 (List.map slE l))))) == orE (deE (List.take (List.length (List.map enE (ensS (deS (List.take (List.length (List.map slE (deS (List.take (List.length (List.map slE l)) (List.drop 0 (List.map slE l)))))) (List.drop 0 (List.map slE (deS (List.take (List.length (List.map slE l)) (List.drop 0 (List.map slE l))))))))))) (List.drop 0 (List.map enE (ensS (deS (List.take (List.length (List.map slE (deS (List.take (List.length (List.map slE l)) (List.drop 0 (List.map slE l)))))) (List.drop 0 (List.map slE (deS (List.take (List.length (List.map slE l)) (List.drop 0 (List.map slE l)))))))))))))) = false ∧ ((!orE (deE (List.take (List.length (List.map enE (ensS (deS (List.take (List.length (List.map slE (deS (List.take (List.length (List.map slE l)) (List.drop 0 (List.map slE l)))))) (List.drop 0 (List.map slE (deS (List.take (List.length (List.map slE l)) (List.drop 0 (List.map slE l))))))))))) (List.drop 0 (List.map enE (ensS (deS (List.take (List.length (List.map slE (deS (List.take (List.length (List.map slE l)) (List.drop 0 (List.map slE l)))))) (List.drop 0 (List.map slE (deS (List.take (List.length (List.map slE l)) (List.drop 0 (List.map slE l)))))))))))))) = true → ((True ∧ true = true) ∧ True ∧ true = true) ∧ (True ∧ true = true) ∧ True ∧ true = true) ∧ ((!orE (deE (List.take (List.length (List.map enE (ensS (deS (List.take (List.length (List.map slE (deS (List.take (List.length (List.map slE l)) (List.drop 0 (List.map slE l)))))) (List.drop 0 (List.map slE (deS (List.take (List.length (List.map slE l)) (List.drop 0 (List.map slE l))))))))))) (List.drop 0 (List.map enE (ensS (deS (List.take (List.length (List.map slE (deS (List.take (List.length (List.map slE l)) (List.drop 0 (List.map slE l)))))) (List.drop 0 (List.map slE (deS (List.take (List.length (List.map slE l)) (List.drop 0 (List.map slE l)))))))))))))) = false → ((0 : Nat) + List.length (List.map slE l) ≤ List.length (List.map slE l) ∧ List.take (List.length (List.map slE l)) (List.drop 0 (List.map slE l)) = List.map slE (deS (List.take (List.length (List.map slE l)) (List.drop 0 (List.map slE l)))) ∧ List.length (deS (List.take (List.length (List.map slE l)) (List.drop 0 (List.map slE l)))) ≤ (1000000 : Nat) ∧ ((List.length (List.map enE (ensS (deS (List.take (List.length (List.map slE l)) (List.drop 0 (List.map slE l)))))) + (1 : Nat)) * (48 : Nat) ≤ (140737488355328 : Nat) ∧ List.length (List.map enE (ensS (deS (List.take (List.length (List.map slE l)) (List.drop 0 (List.map slE l)))))) + (1 : Nat) ≤ (9223372036854775807 : Nat) ∧ (0 : Nat) + (1 : Nat) ≤ List.length [AV.agg [AV.w64 v, AV.w64 w, AV.w64 m, AV.w64 n, AV.int IntKind.i64 k, AV.int IntKind.i64 j]] ∧ List.length (List.map enE (ensS (deS (List.take (List.length (List.map slE l)) (List.drop 0 (List.map slE l)))))) ≤ List.length (List.map enE (ensS (deS (List.take (List.length (List.map slE l)) (List.drop 0 (List.map slE l))))))) ∧ List.take (List.length (List.map enE (ensS (deS (List.take (List.length (List.map slE l)) (List.drop 0 (List.map slE l))))))) (List.map enE (ensS (deS (List.take (List.length (List.map slE l)) (List.drop 0 (List.map slE l)))))) ++ [AV.agg [AV.w64 v, AV.w64 w, AV.w64 m, AV.w64 n, AV.int IntKind.i64 k, AV.int IntKind.i64 j]] = apE13 l (En.mk v w m n k j) ∧ (0 : Nat) + (List.length (List.map enE (ensS (deS (List.take (List.length (List.map slE l)) (List.drop 0 (List.map slE l)))))) + (1 : Nat)) ≤ List.length (apE13 l (En.mk v w m n k j)) ∧ List.take (List.length (List.map enE (ensS (deS (List.take (List.length (List.map slE l)) (List.drop 0 (List.map slE l)))))) + (1 : Nat)) (List.drop 0 (apE13 l (En.mk v w m n k j))) = List.map enE (deE (List.take (List.length (List.map enE (ensS (deS (List.take (List.length (List.map slE l)) (List.drop 0 (List.map slE l)))))) + (1 : Nat)) (List.drop 0 (apE13 l (En.mk v w m n k j))))) ∧ List.length (deE (List.take (List.length (List.map enE (ensS (deS (List.take (List.length (List.map slE l)) (List.drop 0 (List.map slE l)))))) + (1 : Nat)) (List.drop 0 (apE13 l (En.mk v w m n k j))))) ≤ (1000000 : Nat) ∧ (((!List.all (deE (List.take (List.length (List.map enE (ensS (deS (List.take (List.length (List.map slE l)) (List.drop 0 (List.map slE l)))))) + (1 : Nat)) (List.drop 0 (apE13 l (En.mk v w m n k j))))) pfB) = true → True ∧ true = true) ∧ ((!List.all (deE (List.take (List.length (List.map enE (ensS (deS (List.take (List.length (List.map slE l)) (List.drop 0 (List.map slE l)))))) + (1 : Nat)) (List.drop 0 (apE13 l (En.mk v w m n k j))))) pfB) = false → Decidable.decide ((↑(gfC (deS (List.take (List.length (List.map slE l)) (List.drop 0 (List.map slE l)))) (En.mk v w m n k j)) : Int) ≤ (↑(gtC (deS (List.take (List.length (List.map slE l)) (List.drop 0 (List.map slE l)))) (En.mk v w m n k j)) : Int)) = true ∧ True ∧ true = true)) ∧ ((!List.all (deE (List.take (List.length (List.map enE (ensS (deS (List.take (List.length (List.map slE l)) (List.drop 0 (List.map slE l)))))) + (1 : Nat)) (List.drop 0 (apE13 l (En.mk v w m n k j))))) pfB) = true → True ∧ true = true) ∧ ((!List.all (deE (List.take (List.length (List.map enE (ensS (deS (List.take (List.length (List.map slE l)) (List.drop 0 (List.map slE l)))))) + (1 : Nat)) (List.drop 0 (apE13 l (En.mk v w m n k j))))) pfB) = false → Decidable.decide ((↑(gfC (deS (List.take (List.length (List.map slE l)) (List.drop 0 (List.map slE l)))) (En.mk v w m n k j)) : Int) ≤ (↑(gtC (deS (List.take (List.length (List.map slE l)) (List.drop 0 (List.map slE l)))) (En.mk v w m n k j)) : Int)) = true ∧ True ∧ true = true)) ∧ (0 : Nat) + List.length (List.map slE l) ≤ List.length (List.map slE l) ∧ List.take (List.length (List.map slE l)) (List.drop 0 (List.map slE l)) = List.map slE (deS (List.take (List.length (List.map slE l)) (List.drop 0 (List.map slE l)))) ∧ List.length (deS (List.take (List.length (List.map slE l)) (List.drop 0 (List.map slE l)))) ≤ (1000000 : Nat) ∧ ((List.length (List.map enE (ensS (deS (List.take (List.length (List.map slE l)) (List.drop 0 (List.map slE l)))))) + (1 : Nat)) * (48 : Nat) ≤ (140737488355328 : Nat) ∧ List.length (List.map enE (ensS (deS (List.take (List.length (List.map slE l)) (List.drop 0 (List.map slE l)))))) + (1 : Nat) ≤ (9223372036854775807 : Nat) ∧ (0 : Nat) + (1 : Nat) ≤ List.length [AV.agg [AV.w64 v, AV.w64 w, AV.w64 m, AV.w64 n, AV.int IntKind.i64 k, AV.int IntKind.i64 j]] ∧ List.length (List.map enE (ensS (deS (List.take (List.length (List.map slE l)) (List.drop 0 (List.map slE l)))))) ≤ List.length (List.map enE (ensS (deS (List.take (List.length (List.map slE l)) (List.drop 0 (List.map slE l))))))) ∧ List.take (List.length (List.map enE (ensS (deS (List.take (List.length (List.map slE l)) (List.drop 0 (List.map slE l))))))) (List.map enE (ensS (deS (List.take (List.length (List.map slE l)) (List.drop 0 (List.map slE l)))))) ++ [AV.agg [AV.w64 v, AV.w64 w, AV.w64 m, AV.w64 n, AV.int IntKind.i64 k, AV.int IntKind.i64 j]] = apE13 l (En.mk v w m n k j) ∧ (0 : Nat) + (List.length (List.map enE (ensS (deS (List.take (List.length (List.map slE l)) (List.drop 0 (List.map slE l)))))) + (1 : Nat)) ≤ List.length (apE13 l (En.mk v w m n k j)) ∧ List.take (List.length (List.map enE (ensS (deS (List.take (List.length (List.map slE l)) (List.drop 0 (List.map slE l)))))) + (1 : Nat)) (List.drop 0 (apE13 l (En.mk v w m n k j))) = List.map enE (deE (List.take (List.length (List.map enE (ensS (deS (List.take (List.length (List.map slE l)) (List.drop 0 (List.map slE l)))))) + (1 : Nat)) (List.drop 0 (apE13 l (En.mk v w m n k j))))) ∧ List.length (deE (List.take (List.length (List.map enE (ensS (deS (List.take (List.length (List.map slE l)) (List.drop 0 (List.map slE l)))))) + (1 : Nat)) (List.drop 0 (apE13 l (En.mk v w m n k j))))) ≤ (1000000 : Nat) ∧ (((!List.all (deE (List.take (List.length (List.map enE (ensS (deS (List.take (List.length (List.map slE l)) (List.drop 0 (List.map slE l)))))) + (1 : Nat)) (List.drop 0 (apE13 l (En.mk v w m n k j))))) pfB) = true → True ∧ true = true) ∧ ((!List.all (deE (List.take (List.length (List.map enE (ensS (deS (List.take (List.length (List.map slE l)) (List.drop 0 (List.map slE l)))))) + (1 : Nat)) (List.drop 0 (apE13 l (En.mk v w m n k j))))) pfB) = false → Decidable.decide ((↑(gfC (deS (List.take (List.length (List.map slE l)) (List.drop 0 (List.map slE l)))) (En.mk v w m n k j)) : Int) ≤ (↑(gtC (deS (List.take (List.length (List.map slE l)) (List.drop 0 (List.map slE l)))) (En.mk v w m n k j)) : Int)) = true ∧ True ∧ true = true)) ∧ ((!List.all (deE (List.take (List.length (List.map enE (ensS (deS (List.take (List.length (List.map slE l)) (List.drop 0 (List.map slE l)))))) + (1 : Nat)) (List.drop 0 (apE13 l (En.mk v w m n k j))))) pfB) = true → True ∧ true = true) ∧ ((!List.all (deE (List.take (List.length (List.map enE (ensS (deS (List.take (List.length (List.map slE l)) (List.drop 0 (List.map slE l)))))) + (1 : Nat)) (List.drop 0 (apE13 l (En.mk v w m n k j))))) pfB) = false → Decidable.decide ((↑(gfC (deS (List.take (List.length (List.map slE l)) (List.drop 0 (List.map slE l)))) (En.mk v w m n k j)) : Int) ≤ (↑(gtC (deS (List.take (List.length (List.map slE l)) (List.drop 0 (List.map slE l)))) (En.mk v w m n k j)) : Int)) = true ∧ True ∧ true = true)))) := by kernel_rfl

theorem caoFull13_run (l : List Sl) (v w m n : BitVec 64) (k j : Int) : run l13Cs Try.prog 5 [.vsl 0 0 (l.map slE).length, .agg [.w64 v, .w64 w, .w64 m, .w64 n, .int .i64 k, .int .i64 j]] [some ⟨false, 61, 7, true, l.map slE⟩] (cfH l ⟨v, w, m, n, k, j⟩) isTrue =
    ((Decidable.decide ((↑(List.length (List.map slE l)) : Int) > (20 : Int)) = true → (True ∧ true = true) ∧ True ∧ true = true) ∧ (Decidable.decide ((↑(List.length (List.map slE l)) : Int) > (20 : Int)) = false → (0 : Nat) + List.length (List.map slE l) ≤ List.length (List.map slE l) ∧ List.take (List.length (List.map slE l)) (List.drop 0 (List.map slE l)) = List.map slE (deS (List.take (List.length (List.map slE l)) (List.drop 0 (List.map slE l)))) ∧ List.length (deS (List.take (List.length (List.map slE l)) (List.drop 0 (List.map slE l)))) ≤ (1000000 : Nat) ∧ ((!List.all (deS (List.take (List.length (List.map slE l)) (List.drop 0 (List.map slE l)))) rtS) = true → (True ∧ true = true) ∧ True ∧ true = true) ∧ ((!List.all (deS (List.take (List.length (List.map slE l)) (List.drop 0 (List.map slE l)))) rtS) = false → (0 : Nat) + List.length (List.map slE l) ≤ List.length (List.map slE l) ∧ List.take (List.length (List.map slE l)) (List.drop 0 (List.map slE l)) = List.map slE (deS (List.take (List.length (List.map slE l)) (List.drop 0 (List.map slE l)))) ∧ List.length (deS (List.take (List.length (List.map slE l)) (List.drop 0 (List.map slE l)))) ≤ (1000000 : Nat) ∧ ((!orE (ensS (deS (List.take (List.length (List.map slE l)) (List.drop 0 (List.map slE l)))))) = true → (True ∧ true = true) ∧ True ∧ true = true) ∧ ((!orE (ensS (deS (List.take (List.length (List.map slE l)) (List.drop 0 (List.map slE l)))))) = false → ((0 : Nat) + List.length (List.map slE l) ≤ List.length (List.map slE l) ∧ List.take (List.length (List.map slE l)) (List.drop 0 (List.map slE l)) = List.map slE (deS (List.take (List.length (List.map slE l)) (List.drop 0 (List.map slE l)))) ∧ List.length (deS (List.take (List.length (List.map slE l)) (List.drop 0 (List.map slE l)))) ≤ (1000000 : Nat) ∧ ((List.length (List.map enE (ensS (deS (List.take (List.length (List.map slE l)) (List.drop 0 (List.map slE l)))))) + (1 : Nat)) * (48 : Nat) ≤ (140737488355328 : Nat) ∧ List.length (List.map enE (ensS (deS (List.take (List.length (List.map slE l)) (List.drop 0 (List.map slE l)))))) + (1 : Nat) ≤ (9223372036854775807 : Nat) ∧ (0 : Nat) + (1 : Nat) ≤ List.length [AV.agg [AV.w64 v, AV.w64 w, AV.w64 m, AV.w64 n, AV.int IntKind.i64 k, AV.int IntKind.i64 j]] ∧ List.length (List.map enE (ensS (deS (List.take (List.length (List.map slE l)) (List.drop 0 (List.map slE l)))))) ≤ List.length (List.map enE (ensS (deS (List.take (List.length (List.map slE l)) (List.drop 0 (List.map slE l))))))) ∧ List.take (List.length (List.map enE (ensS (deS (List.take (List.length (List.map slE l)) (List.drop 0 (List.map slE l))))))) (List.map enE (ensS (deS (List.take (List.length (List.map slE l)) (List.drop 0 (List.map slE l)))))) ++ [AV.agg [AV.w64 v, AV.w64 w, AV.w64 m, AV.w64 n, AV.int IntKind.i64 k, AV.int IntKind.i64 j]] = apE13 l (En.mk v w m n k j) ∧ (0 : Nat) + (List.length (List.map enE (ensS (deS (List.take (List.length (List.map slE l)) (List.drop 0 (List.map slE l)))))) + (1 : Nat)) ≤ List.length (apE13 l (En.mk v w m n k j)) ∧ List.take (List.length (List.map enE (ensS (deS (List.take (List.length (List.map slE l)) (List.drop 0 (List.map slE l)))))) + (1 : Nat)) (List.drop 0 (apE13 l (En.mk v w m n k j))) = List.map enE (deE (List.take (List.length (List.map enE (ensS (deS (List.take (List.length (List.map slE l)) (List.drop 0 (List.map slE l)))))) + (1 : Nat)) (List.drop 0 (apE13 l (En.mk v w m n k j))))) ∧ List.length (deE (List.take (List.length (List.map enE (ensS (deS (List.take (List.length (List.map slE l)) (List.drop 0 (List.map slE l)))))) + (1 : Nat)) (List.drop 0 (apE13 l (En.mk v w m n k j))))) ≤ (1000000 : Nat) ∧ ((!List.all (deE (List.take (List.length (List.map enE (ensS (deS (List.take (List.length (List.map slE l)) (List.drop 0 (List.map slE l)))))) + (1 : Nat)) (List.drop 0 (apE13 l (En.mk v w m n k j))))) pfB) = true → True ∧ true = true) ∧ ((!List.all (deE (List.take (List.length (List.map enE (ensS (deS (List.take (List.length (List.map slE l)) (List.drop 0 (List.map slE l)))))) + (1 : Nat)) (List.drop 0 (apE13 l (En.mk v w m n k j))))) pfB) = false → (0 : Nat) + List.length (List.map slE l) ≤ List.length (List.map slE l) ∧ List.take (List.length (List.map slE l)) (List.drop 0 (List.map slE l)) = List.map slE (deS (List.take (List.length (List.map slE l)) (List.drop 0 (List.map slE l)))) ∧ List.length (deS (List.take (List.length (List.map slE l)) (List.drop 0 (List.map slE l)))) ≤ (1000000 : Nat) ∧ (0 : Nat) + List.length (List.map slE l) ≤ List.length (List.map slE l) ∧ List.take (List.length (List.map slE l)) (List.drop 0 (List.map slE l)) = List.map slE (deS (List.take (List.length (List.map slE l)) (List.drop 0 (List.map slE l)))) ∧ List.length (deS (List.take (List.length (List.map slE l)) (List.drop 0 (List.map slE l)))) ≤ (9223372036854775807 : Nat) ∧ ((frS (deS (List.take (List.length (List.map slE l)) (List.drop 0 (List.map slE l)))) == (0 : Int)) = true → ((↑(List.length (List.map wrE (wC (deS (List.take (List.length (List.map slE l)) (List.drop 0 (List.map slE l)))) (En.mk v w m n k j)))) : Int) == (0 : Int)) = true ∧ (eC (deS (List.take (List.length (List.map slE l)) (List.drop 0 (List.map slE l)))) (En.mk v w m n k j) == (3 : Int)) = true ∧ True ∧ true = true) ∧ ((frS (deS (List.take (List.length (List.map slE l)) (List.drop 0 (List.map slE l)))) == (0 : Int)) = false → Decidable.decide ((↑(List.length (List.map wrE (wC (deS (List.take (List.length (List.map slE l)) (List.drop 0 (List.map slE l)))) (En.mk v w m n k j)))) : Int) > (0 : Int)) = true ∧ (eC (deS (List.take (List.length (List.map slE l)) (List.drop 0 (List.map slE l)))) (En.mk v w m n k j) == (0 : Int)) = true ∧ True ∧ true = true))) ∧ (0 : Nat) + List.length (List.map slE l) ≤ List.length (List.map slE l) ∧ List.take (List.length (List.map slE l)) (List.drop 0 (List.map slE l)) = List.map slE (deS (List.take (List.length (List.map slE l)) (List.drop 0 (List.map slE l)))) ∧ List.length (deS (List.take (List.length (List.map slE l)) (List.drop 0 (List.map slE l)))) ≤ (1000000 : Nat) ∧ ((List.length (List.map enE (ensS (deS (List.take (List.length (List.map slE l)) (List.drop 0 (List.map slE l)))))) + (1 : Nat)) * (48 : Nat) ≤ (140737488355328 : Nat) ∧ List.length (List.map enE (ensS (deS (List.take (List.length (List.map slE l)) (List.drop 0 (List.map slE l)))))) + (1 : Nat) ≤ (9223372036854775807 : Nat) ∧ (0 : Nat) + (1 : Nat) ≤ List.length [AV.agg [AV.w64 v, AV.w64 w, AV.w64 m, AV.w64 n, AV.int IntKind.i64 k, AV.int IntKind.i64 j]] ∧ List.length (List.map enE (ensS (deS (List.take (List.length (List.map slE l)) (List.drop 0 (List.map slE l)))))) ≤ List.length (List.map enE (ensS (deS (List.take (List.length (List.map slE l)) (List.drop 0 (List.map slE l))))))) ∧ List.take (List.length (List.map enE (ensS (deS (List.take (List.length (List.map slE l)) (List.drop 0 (List.map slE l))))))) (List.map enE (ensS (deS (List.take (List.length (List.map slE l)) (List.drop 0 (List.map slE l)))))) ++ [AV.agg [AV.w64 v, AV.w64 w, AV.w64 m, AV.w64 n, AV.int IntKind.i64 k, AV.int IntKind.i64 j]] = apE13 l (En.mk v w m n k j) ∧ (0 : Nat) + (List.length (List.map enE (ensS (deS (List.take (List.length (List.map slE l)) (List.drop 0 (List.map slE l)))))) + (1 : Nat)) ≤ List.length (apE13 l (En.mk v w m n k j)) ∧ List.take (List.length (List.map enE (ensS (deS (List.take (List.length (List.map slE l)) (List.drop 0 (List.map slE l)))))) + (1 : Nat)) (List.drop 0 (apE13 l (En.mk v w m n k j))) = List.map enE (deE (List.take (List.length (List.map enE (ensS (deS (List.take (List.length (List.map slE l)) (List.drop 0 (List.map slE l)))))) + (1 : Nat)) (List.drop 0 (apE13 l (En.mk v w m n k j))))) ∧ List.length (deE (List.take (List.length (List.map enE (ensS (deS (List.take (List.length (List.map slE l)) (List.drop 0 (List.map slE l)))))) + (1 : Nat)) (List.drop 0 (apE13 l (En.mk v w m n k j))))) ≤ (1000000 : Nat) ∧ ((!List.all (deE (List.take (List.length (List.map enE (ensS (deS (List.take (List.length (List.map slE l)) (List.drop 0 (List.map slE l)))))) + (1 : Nat)) (List.drop 0 (apE13 l (En.mk v w m n k j))))) pfB) = true → True ∧ true = true) ∧ ((!List.all (deE (List.take (List.length (List.map enE (ensS (deS (List.take (List.length (List.map slE l)) (List.drop 0 (List.map slE l)))))) + (1 : Nat)) (List.drop 0 (apE13 l (En.mk v w m n k j))))) pfB) = false → (0 : Nat) + List.length (List.map slE l) ≤ List.length (List.map slE l) ∧ List.take (List.length (List.map slE l)) (List.drop 0 (List.map slE l)) = List.map slE (deS (List.take (List.length (List.map slE l)) (List.drop 0 (List.map slE l)))) ∧ List.length (deS (List.take (List.length (List.map slE l)) (List.drop 0 (List.map slE l)))) ≤ (1000000 : Nat) ∧ (0 : Nat) + List.length (List.map slE l) ≤ List.length (List.map slE l) ∧ List.take (List.length (List.map slE l)) (List.drop 0 (List.map slE l)) = List.map slE (deS (List.take (List.length (List.map slE l)) (List.drop 0 (List.map slE l)))) ∧ List.length (deS (List.take (List.length (List.map slE l)) (List.drop 0 (List.map slE l)))) ≤ (9223372036854775807 : Nat) ∧ ((frS (deS (List.take (List.length (List.map slE l)) (List.drop 0 (List.map slE l)))) == (0 : Int)) = true → ((↑(List.length (List.map wrE (wC (deS (List.take (List.length (List.map slE l)) (List.drop 0 (List.map slE l)))) (En.mk v w m n k j)))) : Int) == (0 : Int)) = true ∧ (eC (deS (List.take (List.length (List.map slE l)) (List.drop 0 (List.map slE l)))) (En.mk v w m n k j) == (3 : Int)) = true ∧ True ∧ true = true) ∧ ((frS (deS (List.take (List.length (List.map slE l)) (List.drop 0 (List.map slE l)))) == (0 : Int)) = false → Decidable.decide ((↑(List.length (List.map wrE (wC (deS (List.take (List.length (List.map slE l)) (List.drop 0 (List.map slE l)))) (En.mk v w m n k j)))) : Int) > (0 : Int)) = true ∧ (eC (deS (List.take (List.length (List.map slE l)) (List.drop 0 (List.map slE l)))) (En.mk v w m n k j) == (0 : Int)) = true ∧ True ∧ true = true)))))) := by kernel_rfl

theorem caoGaps13_law (l : List Sl) (v w m n : BitVec 64) (k j : Int) : ∃ hs, run l13Cs Try.prog 4 [.vsl 0 0 (l.map slE).length, .agg [.w64 v, .w64 w, .w64 m, .w64 n, .int .i64 k, .int .i64 j]] [some ⟨false, 61, 7, true, l.map slE⟩] hs isTrue := by
  refine ⟨(cgH l ⟨v, w, m, n, k, j⟩), ?_⟩
  rw [caoGaps13_run]
  refine ⟨fun _ => ⟨trivial, rfl⟩, fun hl => ?_⟩
  have hl : l.length ≤ 20 := by have := of_decide_eq_false hl; rw [List.length_map] at this; omega
  simp only [whole_row, deS_map, deE_map, zLe, true_and, and_true, eq_self, beq_self_eq_true, bne_self_eq_false, eq_true (show l.length ≤ 1000000 by omega)]
  have hE := ensS_length l
  refine ⟨by omega, rfl, fun _ => trivial, fun ho => ?_⟩
  have ho := notF ho
  simp only [List.length_map, ap_take13, ap_len13, deE_map, zLe, true_and, List.length_append, List.length_singleton]
  have hX : ((ensS l ++ [(⟨v, w, m, n, k, j⟩ : En)]).all pfB) = true → gfC l ⟨v, w, m, n, k, j⟩ ≤ gtC l ⟨v, w, m, n, k, j⟩ := fun h => gapC_le (orS_iff.1 ho) (all_pf13 h).1 (all_pf13 h).2
  have X : ((!(ensS l ++ [(⟨v, w, m, n, k, j⟩ : En)]).all pfB) = true → True) ∧ ((!(ensS l ++ [(⟨v, w, m, n, k, j⟩ : En)]).all pfB) = false → decide ((gfC l ⟨v, w, m, n, k, j⟩ : Int) ≤ (gtC l ⟨v, w, m, n, k, j⟩ : Int)) = true) := ⟨fun _ => trivial, fun h => decide_eq_true (Int.ofNat_le.2 (hX (notF h)))⟩
  have A := And.intro (⟨by omega, by omega, Nat.le_refl _⟩ : ((ensS l).length + 1) * 48 ≤ 140737488355328 ∧ (ensS l).length + 1 ≤ 9223372036854775807 ∧ (ensS l).length ≤ (ensS l).length) (And.intro (ap_is13 l ⟨v, w, m, n, k, j⟩) (And.intro (show (ensS l).length + 1 ≤ 1000000 by omega) (And.intro X X)))
  exact ⟨A, A⟩

theorem caoFull13_law (l : List Sl) (v w m n : BitVec 64) (k j : Int) : ∃ hs, run l13Cs Try.prog 5 [.vsl 0 0 (l.map slE).length, .agg [.w64 v, .w64 w, .w64 m, .w64 n, .int .i64 k, .int .i64 j]] [some ⟨false, 61, 7, true, l.map slE⟩] hs isTrue := by
  refine ⟨(cfH l ⟨v, w, m, n, k, j⟩), ?_⟩
  rw [caoFull13_run]
  have hE := ensS_length l
  have hw : List.take l.length (List.drop 0 (l.map slE)) = l.map slE := take_all rfl
  simp only [hw, deS_map, deE_map, zLe, true_and, and_true, eq_self, List.length_map, ap_take13, ap_len13, List.length_append, List.length_singleton]
  refine ⟨fun _ => trivial, fun hl => ?_⟩
  have hl : l.length ≤ 20 := by have := of_decide_eq_false hl; omega
  refine ⟨by omega, fun _ => trivial, fun _ => ⟨by omega, fun _ => trivial, fun ho => ?_⟩⟩
  have ho := notF ho
  have K : ((ensS l ++ [(⟨v, w, m, n, k, j⟩ : En)]).all pfB) = true → ((frS l == 0) = true → (((wC l ⟨v, w, m, n, k, j⟩).length : Int) == 0) = true ∧ (eC l ⟨v, w, m, n, k, j⟩ == 3) = true) ∧ ((frS l == 0) = false → decide (((wC l ⟨v, w, m, n, k, j⟩).length : Int) > 0) = true ∧ (eC l ⟨v, w, m, n, k, j⟩ == 0) = true) := by
    generalize (⟨v, w, m, n, k, j⟩ : En) = x
    intro h
    have hp := all_pf13 h
    have hg := gapC_le (orS_iff.1 ho) hp.1 hp.2
    have hr : rtE x = true := by
      have := List.all_eq_true.1 h x (List.mem_append_right _ (List.mem_singleton.2 rfl))
      unfold pfB at this
      rw [Bool.and_eq_true] at this
      exact this.1
    have hk : okC l x = true := by unfold okC; rw [ho, decide_eq_true hg]; rfl
    have eW : wC l x = oC l x := by unfold wC; rw [hr, hk]; rfl
    have eE : eC l x = if (oC l x).length = 0 then 3 else 0 := by unfold eC; rw [hr, hk]; rfl
    have hn := oC_none (x := x) hg
    rw [eW, eE]
    constructor
    · intro hf
      have e : (ensS l).length = l.length := by have := eq_of_beq hf; unfold frS at this; omega
      rw [if_pos (hn.2 e), hn.2 e]
      exact ⟨rfl, rfl⟩
    · intro hf
      have hz : (oC l x).length ≠ 0 := fun e => by
        have := hn.1 e
        have e2 : frS l = 0 := by unfold frS; omega
        rw [e2] at hf
        cases hf
      rw [if_neg hz]
      exact ⟨decide_eq_true (by omega), rfl⟩
  have A := And.intro (show l.length ≤ 1000000 by omega) (And.intro (⟨by omega, by omega, Nat.le_refl _⟩ : ((ensS l).length + 1) * 48 ≤ 140737488355328 ∧ (ensS l).length + 1 ≤ 9223372036854775807 ∧ (ensS l).length ≤ (ensS l).length) (And.intro (ap_is13 l ⟨v, w, m, n, k, j⟩) (And.intro (show (ensS l).length + 1 ≤ 1000000 by omega) (And.intro (fun _ : (!(ensS l ++ [(⟨v, w, m, n, k, j⟩ : En)]).all pfB) = true => trivial) fun h : (!(ensS l ++ [(⟨v, w, m, n, k, j⟩ : En)]).all pfB) = false => And.intro (show l.length ≤ 1000000 by omega) (And.intro (show l.length ≤ 9223372036854775807 by omega) (K (notF h)))))))
  exact ⟨A, A⟩

end Go.Proofs.Ytmkppicnbjoijaa.L1
end

section
/-
  Layer 13: all that the laws call is as said, once the program's calls are.
-/
namespace Go.Proofs.Ytmkppicnbjoijaa.L1
open Go.Sx Go.Sx.M

/-- What the program's calls of cao and plo are to say. -/
structure Cao13 : Prop where
  hI : SpecOK Try.prog 11 (genSpec [pSl, none] ginsert13F)
  hG : SpecOK Try.prog 16 (genSpec [pSl, none] ggap13F)
  hK : SpecOK Try.prog 20 (genSpec [pSl] gkept13F)
  hC : SpecOK Try.prog 31 (genSpec [pEn] gchain13F)
  pK : SpecOK Try.prog 27 (genSpec [pSl] gkept12F)
  pG : SpecOK Try.prog 28 (genSpec [pSl, none] ggap12F)

theorem awake13Cs_of (h : Cao13) : ∀ e ∈ awake13Cs, SpecOK Try.prog e.1 e.2 := by
  intro e he
  simp only [awake13Cs, List.mem_cons, List.not_mem_nil, or_false] at he
  rcases he with rfl | rfl | rfl | rfl | rfl
  · exact slot13_ok
  · exact h.hI
  · exact h.hK
  · exact gentries8_ok
  · exact h.hC

theorem k13Cs_of (h : Cao13) : ∀ e ∈ k13Cs, SpecOK Try.prog e.1 e.2 := by
  intro e he
  simp only [k13Cs, List.mem_cons, List.not_mem_nil, or_false] at he
  rcases he with rfl | rfl | rfl | rfl | rfl | rfl | rfl | rfl | rfl | rfl | rfl | rfl | rfl
  · exact awake13_of (awake13Cs_of h)
  · exact of8_ok
  · exact one5_ok
  · exact writes12_ok
  · exact same8_ok
  · exact h.hI
  · exact h.hG
  · exact h.hK
  · exact rinsert13_ok
  · exact h.pK
  · exact h.pG
  · exact eright_ok
  · exact gapply8_ok

theorem l13Cs_of (h : Cao13) : ∀ e ∈ l13Cs, SpecOK Try.prog e.1 e.2 := by
  intro e he
  rcases List.mem_append.1 he with he | he
  · simp only [List.mem_cons, List.not_mem_nil, or_false] at he
    rcases he with rfl | rfl | rfl | rfl | rfl | rfl | rfl | rfl
    · exact prefixes13_ok
    · exact right13_ok
    · exact gentries8_ok
    · exact gfree8_ok
    · exact rgap13_ok
    · exact rordered_ok
    · exact rentries8_ok
    · exact wmeet_ok
  · exact k13Cs_of h e he

end Go.Proofs.Ytmkppicnbjoijaa.L1
end

section
/-
  Layer 5: contracts of the library's Clone and SortFunc of entries, and of the program's Sort.
-/
namespace Go.Proofs.Ytmkppicnbjoijaa.L1
open Go.Sx Go.Sx.M

/-- An entry's cells, as values. -/
def encVE (x : En) : List Value := [.int .u64 (x.v.toNat : Int), .int .u64 (x.w.toNat : Int), .int .u64 (x.m.toNat : Int), .int .u64 (x.n.toNat : Int), .int .i64 x.len, .int .i64 x.act]

theorem enE_ok : EncOK enE encVE 6 where
  len _ := rfl
  agg _ := rfl
  cells _ := rfl
  sound _ := rfl
  plain _ := rfl
  rel _ := .cons (.w64 _) (.cons (.w64 _) (.cons (.w64 _) (.cons (.w64 _) (.cons (.int _ _) (.cons (.int _ _) .nil)))))
  det x o c v hc hr := by
    have hc : [AV.w64 x.v, .w64 x.w, .w64 x.m, .w64 x.n, .int .i64 x.len, .int .i64 x.act][o]? = some c := hc
    rcases o with _ | _ | _ | _ | _ | _ | o <;> simp at hc
    · subst hc; rw [w64_inv hr]; rfl
    · subst hc; rw [w64_inv hr]; rfl
    · subst hc; rw [w64_inv hr]; rfl
    · subst hc; rw [w64_inv hr]; rfl
    · subst hc; rw [int_inv hr]; rfl
    · subst hc; rw [int_inv hr]; rfl
  one x v hv := by
    simp only [encVE, List.mem_cons, List.not_mem_nil, or_false] at hv
    rcases hv with rfl | rfl | rfl | rfl | rfl | rfl <;> rfl

theorem ltE (x y : En) : Go.Proofs.ltOf cpE x y = decide (cpE x y < 0) := rfl

theorem swoE : Go.Sort.SWO (Go.Proofs.ltOf cpE) where
  irrefl x := by rw [ltE, cpE_zero.2 rfl]; rfl
  trans x y z h1 h2 := by
    rw [ltE, decide_eq_true_eq] at *
    have h3 := cpE_trans (x := x) (y := y) (z := z) (by omega) (by omega)
    rcases Int.lt_or_eq_of_le h3 with h | h
    · exact h
    · have e := cpE_zero.1 h
      subst e
      have := cpE_turn x y
      omega
  ntrans x y z h1 h2 := by
    rw [ltE, decide_eq_false_iff_not] at *
    have t1 := cpE_turn x y
    have t2 := cpE_turn y z
    have t3 := cpE_turn x z
    have := cpE_trans (x := z) (y := y) (z := x) (by omega) (by omega)
    omega

theorem antiE (x y : En) (h1 : Go.Proofs.ltOf cpE x y = false) (h2 : Go.Proofs.ltOf cpE y x = false) : x = y := by
  rw [ltE, decide_eq_false_iff_not] at *
  have t := cpE_turn x y
  exact cpE_zero.1 (by omega)

theorem srE_merge (l : List En) : srE l = l.mergeSort fun x y => !(Go.Proofs.ltOf cpE) y x := by
  have hle : ∀ x y : En, (!(Go.Proofs.ltOf cpE) y x) = true ↔ cpE x y ≤ 0 := fun x y => by
    rw [ltE, Bool.not_eq_true', decide_eq_false_iff_not]
    have t := cpE_turn x y
    omega
  refine (srE_uniq ?_ (List.mergeSort_perm _ _)).symm
  have hp := List.pairwise_mergeSort (le := fun x y => !(Go.Proofs.ltOf cpE) y x) (fun a b c h1 h2 => (hle a c).2 (cpE_trans ((hle a b).1 h1) ((hle b c).1 h2))) (fun a b => by
    rw [Bool.or_eq_true, hle, hle]; exact cpE_total a b) l
  exact hp.imp fun h => (hle _ _).1 h

noncomputable def esortfSpec : Sx.Spec := sortSpec 6 71 enE deE srE

theorem esortf_ok : SpecOK Try.prog 70 esortfSpec :=
  sortSpec_ok Try.laysSlF06_f70 (by decide) Try.isAgg29 Try.sizeOf29 enE_ok cpE swoE antiE srE_merge ecompare_ok (fun _ _ => rfl) noNG Try.func71 (by kernel_rfl) Try.func70 (by kernel_rfl)

def ecloneF : List Arg → (Res → Prop) → Prop
  | [.row r_l], R => r_l = (deE r_l).map enE ∧ (deE r_l).length ≤ 1000000 ∧ R (.vrow 29 6 ((deE r_l).map enE))
  | _, _ => False

theorem eclone_run (l : List En) (F : List En → List AV) (es : List AV) : run [] Try.prog 69 [.vsl 0 0 (l.map enE).length] [some ⟨false, (pEn.getD (0, 0)).1, (pEn.getD (0, 0)).2, true, (l.map enE)⟩] [.fork [] [.rows (F l)]] (yields (.vrow 29 6 es)) =
    ((List.length (List.map enE l) = (0 : Nat) → es = []) ∧ (((0 : Nat) + List.length (List.map enE l)) * (48 : Nat) ≤ (140737488355328 : Nat) ∧ (0 : Nat) + List.length (List.map enE l) ≤ (9223372036854775807 : Nat) ∧ (0 : Nat) + List.length (List.map enE l) ≤ List.length (List.map enE l) ∧ (0 : Nat) ≤ List.length ([] : List AV)) ∧ [] ++ List.take (List.length (List.map enE l)) (List.drop (0 : Nat) (List.map enE l)) = F l ∧ (0 : Nat) + List.length (List.map enE l) = List.length es ∧ some (Blk.mk true (29 : Nat) (6 : Nat) true (F l)) = some (Blk.mk true (29 : TypeId) (6 : Nat) true es)) := by kernel_rfl

theorem eclone_ok : SpecOK Try.prog 69 (genSpec [pEn] ecloneF) := by
  refine genSpec_ok none_ok fun l R hF => ?_
  unfold ecloneF at hF
  split at hF
  · rename_i r_l
    obtain ⟨hr_l, hl, hF⟩ := hF
    generalize deE r_l = l at hr_l hl hF
    subst hr_l
    refine ⟨_, hF, trivial, [.fork [] [.rows ((List.map enE) l)]], ?_⟩
    show run [] Try.prog _ [.vsl 0 0 (l.map enE).length] [some ⟨false, (pEn.getD (0, 0)).1, (pEn.getD (0, 0)).2, true, (l.map enE)⟩] _ _
    rw [eclone_run]
    refine ⟨fun h => List.eq_nil_of_length_eq_zero h, ⟨by rw [List.length_map]; omega, by rw [List.length_map]; omega, by omega, Nat.zero_le _⟩, ?_, by omega, rfl⟩
    rw [List.nil_append, whole_row]
  · exact hF.elim


noncomputable def esortCs : List (FuncId × Sx.Spec) := [(69, genSpec [pEn] ecloneF),
  (70, esortfSpec)]

theorem esort_run (l : List En) (es : List AV) : run esortCs Try.prog 55 [.vsl 0 0 (l.map enE).length] [some ⟨false, (pEn.getD (0, 0)).1, (pEn.getD (0, 0)).2, true, (l.map enE)⟩] [] (yields (.vrow 29 6 es)) =
    ((0 : Nat) + List.length (List.map enE l) ≤ List.length (List.map enE l) ∧ List.take (List.length (List.map enE l)) (List.drop (0 : Nat) (List.map enE l)) = List.map enE (deE (List.take (List.length (List.map enE l)) (List.drop (0 : Nat) (List.map enE l)))) ∧ List.length (deE (List.take (List.length (List.map enE l)) (List.drop (0 : Nat) (List.map enE l)))) ≤ (1000000 : Nat) ∧ (List.map enE (deE (List.take (List.length (List.map enE l)) (List.drop (0 : Nat) (List.map enE l))))) = List.map enE (deE (List.map enE (deE (List.take (List.length (List.map enE l)) (List.drop (0 : Nat) (List.map enE l)))))) ∧ List.length (List.map enE (deE (List.take (List.length (List.map enE l)) (List.drop (0 : Nat) (List.map enE l))))) = List.length (deE (List.map enE (deE (List.take (List.length (List.map enE l)) (List.drop (0 : Nat) (List.map enE l)))))) ∧ List.length (List.map enE (deE (List.take (List.length (List.map enE l)) (List.drop (0 : Nat) (List.map enE l))))) < (4611686018427387904 : Nat) ∧ List.length (List.map enE (deE (List.take (List.length (List.map enE l)) (List.drop (0 : Nat) (List.map enE l))))) = List.length es ∧ some (Blk.mk true (nat_lit 29) (6 : Nat) true (List.map enE (srE (deE (List.map enE (deE (List.take (List.length (List.map enE l)) (List.drop (0 : Nat) (List.map enE l))))))))) = some (Blk.mk true (29 : TypeId) (6 : Nat) true es)) := by kernel_rfl

theorem esortCs_ok : ∀ e ∈ esortCs, SpecOK Try.prog e.1 e.2 := by
  intro e he
  simp only [esortCs, List.mem_cons, List.not_mem_nil, or_false] at he
  rcases he with rfl | rfl
  · exact eclone_ok
  · exact esortf_ok

theorem esort_ok : SpecOK Try.prog 55 (genSpec [pEn] esortF) := by
  refine genSpec_ok (run_ok (l := esortCs) esortCs_ok mixed noNG) fun l R hF => ?_
  unfold esortF at hF
  split at hF
  · rename_i r_l
    obtain ⟨hr_l, hl, hF⟩ := hF
    generalize deE r_l = l at hr_l hl hF
    subst hr_l
    refine ⟨_, hF, trivial, [], ?_⟩
    show run esortCs Try.prog _ [.vsl 0 0 (l.map enE).length] [some ⟨false, (pEn.getD (0, 0)).1, (pEn.getD (0, 0)).2, true, (l.map enE)⟩] _ _
    rw [esort_run]
    simp only [whole_row, deE_map]
    exact ⟨by omega, by trivial, hl, by trivial, by rw [List.length_map], by rw [List.length_map]; omega, by rw [List.length_map, List.length_map, srE_length], by trivial⟩
  · exact hF.elim


end Go.Proofs.Ytmkppicnbjoijaa.L1
end

section
/-
  Layer 13: contract of the program's Chain, of the two entries that the law asks for.
-/
namespace Go.Proofs.Ytmkppicnbjoijaa.L1
open Go.Sx Go.Sx.M

def ch13H (x y : En) : List Hint := [.nm [enE x, enE y], .loop 3, .br true, .cell (enE x), .loop 2, .wrc [], .br true, .cell (enE y), .loop 2, .loop 2, .br true, .wrc [], .br false]

noncomputable def gchain13Cs : List (FuncId × Sx.Spec) := [(55, genSpec [pEn] esortF),
  (34, genSpec [none, none] raboveF)]

theorem gchain13Cs_ok : ∀ e ∈ gchain13Cs, SpecOK Try.prog e.1 e.2 := by
  intro e he
  simp only [gchain13Cs, List.mem_cons, List.not_mem_nil, or_false] at he
  rcases he with rfl | rfl
  · exact esort_ok
  · exact eabove_ok

theorem gchain13_run (v w m n : BitVec 64) (k j : Int) (c d p q : BitVec 64) (s t : Int) : run gchain13Cs Try.prog 31 [.vsl 0 0 2] [some ⟨false, 29, 6, true, [enE ⟨v, w, m, n, k, j⟩, enE ⟨c, d, p, q, s, t⟩]⟩] (ch13H ⟨v, w, m, n, k, j⟩ ⟨c, d, p, q, s, t⟩) (yields (.v (.int .i64 2))) =
    ((0 : Nat) + (2 : Nat) ≤ List.length [AV.agg [AV.w64 v, AV.w64 w, AV.w64 m, AV.w64 n, AV.int IntKind.i64 k, AV.int IntKind.i64 j], AV.agg [AV.w64 c, AV.w64 d, AV.w64 p, AV.w64 q, AV.int IntKind.i64 s, AV.int IntKind.i64 t]] ∧ [AV.agg [AV.w64 v, AV.w64 w, AV.w64 m, AV.w64 n, AV.int IntKind.i64 k, AV.int IntKind.i64 j], AV.agg [AV.w64 c, AV.w64 d, AV.w64 p, AV.w64 q, AV.int IntKind.i64 s, AV.int IntKind.i64 t]] = [AV.agg [AV.w64 v, AV.w64 w, AV.w64 m, AV.w64 n, AV.int IntKind.i64 k, AV.int IntKind.i64 j], AV.agg [AV.w64 c, AV.w64 d, AV.w64 p, AV.w64 q, AV.int IntKind.i64 s, AV.int IntKind.i64 t]] ∧ List.length (deE [AV.agg [AV.w64 v, AV.w64 w, AV.w64 m, AV.w64 n, AV.int IntKind.i64 k, AV.int IntKind.i64 j], AV.agg [AV.w64 c, AV.w64 d, AV.w64 p, AV.w64 q, AV.int IntKind.i64 s, AV.int IntKind.i64 t]]) ≤ (1000000 : Nat) ∧ (List.map enE (srE (deE [AV.agg [AV.w64 v, AV.w64 w, AV.w64 m, AV.w64 n, AV.int IntKind.i64 k, AV.int IntKind.i64 j], AV.agg [AV.w64 c, AV.w64 d, AV.w64 p, AV.w64 q, AV.int IntKind.i64 s, AV.int IntKind.i64 t]])) = [AV.agg [AV.w64 v, AV.w64 w, AV.w64 m, AV.w64 n, AV.int IntKind.i64 k, AV.int IntKind.i64 j], AV.agg [AV.w64 c, AV.w64 d, AV.w64 p, AV.w64 q, AV.int IntKind.i64 s, AV.int IntKind.i64 t]] ∧ List.length (List.map enE (srE (deE [AV.agg [AV.w64 v, AV.w64 w, AV.w64 m, AV.w64 n, AV.int IntKind.i64 k, AV.int IntKind.i64 j], AV.agg [AV.w64 c, AV.w64 d, AV.w64 p, AV.w64 q, AV.int IntKind.i64 s, AV.int IntKind.i64 t]]))) = List.length [AV.agg [AV.w64 v, AV.w64 w, AV.w64 m, AV.w64 n, AV.int IntKind.i64 k, AV.int IntKind.i64 j], AV.agg [AV.w64 c, AV.w64 d, AV.w64 p, AV.w64 q, AV.int IntKind.i64 s, AV.int IntKind.i64 t]]) ∧ Decidable.decide ((0 : Int) < (↑(List.length [AV.agg [AV.w64 v, AV.w64 w, AV.w64 m, AV.w64 n, AV.int IntKind.i64 k, AV.int IntKind.i64 j], AV.agg [AV.w64 c, AV.w64 d, AV.w64 p, AV.w64 q, AV.int IntKind.i64 s, AV.int IntKind.i64 t]]) : Int)) = true ∧ ((0 : Int) ≤ (0 : Int) ∧ (0 : Int) < (↑(List.length [AV.agg [AV.w64 v, AV.w64 w, AV.w64 m, AV.w64 n, AV.int IntKind.i64 k, AV.int IntKind.i64 j], AV.agg [AV.w64 c, AV.w64 d, AV.w64 p, AV.w64 q, AV.int IntKind.i64 s, AV.int IntKind.i64 t]]) : Int)) ∧ Blk.read Proofs.Try.prog (Blk.mk true (29 : TypeId) 6 true [AV.agg [AV.w64 v, AV.w64 w, AV.w64 m, AV.w64 n, AV.int IntKind.i64 k, AV.int IntKind.i64 j], AV.agg [AV.w64 c, AV.w64 d, AV.w64 p, AV.w64 q, AV.int IntKind.i64 s, AV.int IntKind.i64 t]]) 29 ((0 : Nat) + Int.toNat 0) 0 = some (AV.agg [AV.w64 v, AV.w64 w, AV.w64 m, AV.w64 n, AV.int IntKind.i64 k, AV.int IntKind.i64 j]) ∧ ((Decidable.decide ((1 : Int) < (↑(List.length [AV.agg [AV.w64 v, AV.w64 w, AV.w64 m, AV.w64 n, AV.int IntKind.i64 k, AV.int IntKind.i64 j], AV.agg [AV.w64 c, AV.w64 d, AV.w64 p, AV.w64 q, AV.int IntKind.i64 s, AV.int IntKind.i64 t]]) : Int)) = true ∧ ((0 : Int) ≤ (1 : Int) ∧ (1 : Int) < (↑(List.length [AV.agg [AV.w64 v, AV.w64 w, AV.w64 m, AV.w64 n, AV.int IntKind.i64 k, AV.int IntKind.i64 j], AV.agg [AV.w64 c, AV.w64 d, AV.w64 p, AV.w64 q, AV.int IntKind.i64 s, AV.int IntKind.i64 t]]) : Int)) ∧ Blk.read Proofs.Try.prog (Blk.mk true (29 : TypeId) 6 true [AV.agg [AV.w64 v, AV.w64 w, AV.w64 m, AV.w64 n, AV.int IntKind.i64 k, AV.int IntKind.i64 j], AV.agg [AV.w64 c, AV.w64 d, AV.w64 p, AV.w64 q, AV.int IntKind.i64 s, AV.int IntKind.i64 t]]) 29 ((0 : Nat) + Int.toNat 1) 0 = some (AV.agg [AV.w64 c, AV.w64 d, AV.w64 p, AV.w64 q, AV.int IntKind.i64 s, AV.int IntKind.i64 t]) ∧ abE (En.mk v w m n k j) (En.mk c d p q s t) = true ∧ Decidable.decide ((2 : Int) < (↑(List.length [AV.agg [AV.w64 v, AV.w64 w, AV.w64 m, AV.w64 n, AV.int IntKind.i64 k, AV.int IntKind.i64 j], AV.agg [AV.w64 c, AV.w64 d, AV.w64 p, AV.w64 q, AV.int IntKind.i64 s, AV.int IntKind.i64 t]]) : Int)) = false ∧ AV.int IntKind.i64 (↑(nat_lit 0 + (1 : Nat) + (1 : Nat)) : Int) = AV.int IntKind.i64 2) ∧ (Decidable.decide ((1 : Int) < (↑(List.length [AV.agg [AV.w64 v, AV.w64 w, AV.w64 m, AV.w64 n, AV.int IntKind.i64 k, AV.int IntKind.i64 j], AV.agg [AV.w64 c, AV.w64 d, AV.w64 p, AV.w64 q, AV.int IntKind.i64 s, AV.int IntKind.i64 t]]) : Int)) = true ∧ ((0 : Int) ≤ (1 : Int) ∧ (1 : Int) < (↑(List.length [AV.agg [AV.w64 v, AV.w64 w, AV.w64 m, AV.w64 n, AV.int IntKind.i64 k, AV.int IntKind.i64 j], AV.agg [AV.w64 c, AV.w64 d, AV.w64 p, AV.w64 q, AV.int IntKind.i64 s, AV.int IntKind.i64 t]]) : Int)) ∧ Blk.read Proofs.Try.prog (Blk.mk true (29 : TypeId) 6 true [AV.agg [AV.w64 v, AV.w64 w, AV.w64 m, AV.w64 n, AV.int IntKind.i64 k, AV.int IntKind.i64 j], AV.agg [AV.w64 c, AV.w64 d, AV.w64 p, AV.w64 q, AV.int IntKind.i64 s, AV.int IntKind.i64 t]]) 29 ((0 : Nat) + Int.toNat 1) 0 = some (AV.agg [AV.w64 c, AV.w64 d, AV.w64 p, AV.w64 q, AV.int IntKind.i64 s, AV.int IntKind.i64 t]) ∧ abE (En.mk v w m n k j) (En.mk c d p q s t) = true ∧ Decidable.decide ((2 : Int) < (↑(List.length [AV.agg [AV.w64 v, AV.w64 w, AV.w64 m, AV.w64 n, AV.int IntKind.i64 k, AV.int IntKind.i64 j], AV.agg [AV.w64 c, AV.w64 d, AV.w64 p, AV.w64 q, AV.int IntKind.i64 s, AV.int IntKind.i64 t]]) : Int)) = false ∧ AV.int IntKind.i64 (↑(nat_lit 0 + (1 : Nat) + (1 : Nat)) : Int) = AV.int IntKind.i64 2) ∧ Decidable.decide ((1 : Int) < (↑(List.length [AV.agg [AV.w64 v, AV.w64 w, AV.w64 m, AV.w64 n, AV.int IntKind.i64 k, AV.int IntKind.i64 j], AV.agg [AV.w64 c, AV.w64 d, AV.w64 p, AV.w64 q, AV.int IntKind.i64 s, AV.int IntKind.i64 t]]) : Int)) = true ∧ ((0 : Int) ≤ (1 : Int) ∧ (1 : Int) < (↑(List.length [AV.agg [AV.w64 v, AV.w64 w, AV.w64 m, AV.w64 n, AV.int IntKind.i64 k, AV.int IntKind.i64 j], AV.agg [AV.w64 c, AV.w64 d, AV.w64 p, AV.w64 q, AV.int IntKind.i64 s, AV.int IntKind.i64 t]]) : Int)) ∧ Blk.read Proofs.Try.prog (Blk.mk true (29 : TypeId) 6 true [AV.agg [AV.w64 v, AV.w64 w, AV.w64 m, AV.w64 n, AV.int IntKind.i64 k, AV.int IntKind.i64 j], AV.agg [AV.w64 c, AV.w64 d, AV.w64 p, AV.w64 q, AV.int IntKind.i64 s, AV.int IntKind.i64 t]]) 29 ((0 : Nat) + Int.toNat 1) 0 = some (AV.agg [AV.w64 c, AV.w64 d, AV.w64 p, AV.w64 q, AV.int IntKind.i64 s, AV.int IntKind.i64 t]) ∧ abE (En.mk v w m n k j) (En.mk c d p q s t) = true ∧ Decidable.decide ((2 : Int) < (↑(List.length [AV.agg [AV.w64 v, AV.w64 w, AV.w64 m, AV.w64 n, AV.int IntKind.i64 k, AV.int IntKind.i64 j], AV.agg [AV.w64 c, AV.w64 d, AV.w64 p, AV.w64 q, AV.int IntKind.i64 s, AV.int IntKind.i64 t]]) : Int)) = false ∧ AV.int IntKind.i64 (↑(nat_lit 0 + (1 : Nat) + (1 : Nat)) : Int) = AV.int IntKind.i64 2) ∧ ((Decidable.decide ((1 : Int) < (↑(List.length [AV.agg [AV.w64 v, AV.w64 w, AV.w64 m, AV.w64 n, AV.int IntKind.i64 k, AV.int IntKind.i64 j], AV.agg [AV.w64 c, AV.w64 d, AV.w64 p, AV.w64 q, AV.int IntKind.i64 s, AV.int IntKind.i64 t]]) : Int)) = true ∧ ((0 : Int) ≤ (1 : Int) ∧ (1 : Int) < (↑(List.length [AV.agg [AV.w64 v, AV.w64 w, AV.w64 m, AV.w64 n, AV.int IntKind.i64 k, AV.int IntKind.i64 j], AV.agg [AV.w64 c, AV.w64 d, AV.w64 p, AV.w64 q, AV.int IntKind.i64 s, AV.int IntKind.i64 t]]) : Int)) ∧ Blk.read Proofs.Try.prog (Blk.mk true (29 : TypeId) 6 true [AV.agg [AV.w64 v, AV.w64 w, AV.w64 m, AV.w64 n, AV.int IntKind.i64 k, AV.int IntKind.i64 j], AV.agg [AV.w64 c, AV.w64 d, AV.w64 p, AV.w64 q, AV.int IntKind.i64 s, AV.int IntKind.i64 t]]) 29 ((0 : Nat) + Int.toNat 1) 0 = some (AV.agg [AV.w64 c, AV.w64 d, AV.w64 p, AV.w64 q, AV.int IntKind.i64 s, AV.int IntKind.i64 t]) ∧ abE (En.mk v w m n k j) (En.mk c d p q s t) = true ∧ Decidable.decide ((2 : Int) < (↑(List.length [AV.agg [AV.w64 v, AV.w64 w, AV.w64 m, AV.w64 n, AV.int IntKind.i64 k, AV.int IntKind.i64 j], AV.agg [AV.w64 c, AV.w64 d, AV.w64 p, AV.w64 q, AV.int IntKind.i64 s, AV.int IntKind.i64 t]]) : Int)) = false ∧ AV.int IntKind.i64 (↑(nat_lit 0 + (1 : Nat) + (1 : Nat)) : Int) = AV.int IntKind.i64 2) ∧ (Decidable.decide ((1 : Int) < (↑(List.length [AV.agg [AV.w64 v, AV.w64 w, AV.w64 m, AV.w64 n, AV.int IntKind.i64 k, AV.int IntKind.i64 j], AV.agg [AV.w64 c, AV.w64 d, AV.w64 p, AV.w64 q, AV.int IntKind.i64 s, AV.int IntKind.i64 t]]) : Int)) = true ∧ ((0 : Int) ≤ (1 : Int) ∧ (1 : Int) < (↑(List.length [AV.agg [AV.w64 v, AV.w64 w, AV.w64 m, AV.w64 n, AV.int IntKind.i64 k, AV.int IntKind.i64 j], AV.agg [AV.w64 c, AV.w64 d, AV.w64 p, AV.w64 q, AV.int IntKind.i64 s, AV.int IntKind.i64 t]]) : Int)) ∧ Blk.read Proofs.Try.prog (Blk.mk true (29 : TypeId) 6 true [AV.agg [AV.w64 v, AV.w64 w, AV.w64 m, AV.w64 n, AV.int IntKind.i64 k, AV.int IntKind.i64 j], AV.agg [AV.w64 c, AV.w64 d, AV.w64 p, AV.w64 q, AV.int IntKind.i64 s, AV.int IntKind.i64 t]]) 29 ((0 : Nat) + Int.toNat 1) 0 = some (AV.agg [AV.w64 c, AV.w64 d, AV.w64 p, AV.w64 q, AV.int IntKind.i64 s, AV.int IntKind.i64 t]) ∧ abE (En.mk v w m n k j) (En.mk c d p q s t) = true ∧ Decidable.decide ((2 : Int) < (↑(List.length [AV.agg [AV.w64 v, AV.w64 w, AV.w64 m, AV.w64 n, AV.int IntKind.i64 k, AV.int IntKind.i64 j], AV.agg [AV.w64 c, AV.w64 d, AV.w64 p, AV.w64 q, AV.int IntKind.i64 s, AV.int IntKind.i64 t]]) : Int)) = false ∧ AV.int IntKind.i64 (↑(nat_lit 0 + (1 : Nat) + (1 : Nat)) : Int) = AV.int IntKind.i64 2) ∧ Decidable.decide ((1 : Int) < (↑(List.length [AV.agg [AV.w64 v, AV.w64 w, AV.w64 m, AV.w64 n, AV.int IntKind.i64 k, AV.int IntKind.i64 j], AV.agg [AV.w64 c, AV.w64 d, AV.w64 p, AV.w64 q, AV.int IntKind.i64 s, AV.int IntKind.i64 t]]) : Int)) = true ∧ ((0 : Int) ≤ (1 : Int) ∧ (1 : Int) < (↑(List.length [AV.agg [AV.w64 v, AV.w64 w, AV.w64 m, AV.w64 n, AV.int IntKind.i64 k, AV.int IntKind.i64 j], AV.agg [AV.w64 c, AV.w64 d, AV.w64 p, AV.w64 q, AV.int IntKind.i64 s, AV.int IntKind.i64 t]]) : Int)) ∧ Blk.read Proofs.Try.prog (Blk.mk true (29 : TypeId) 6 true [AV.agg [AV.w64 v, AV.w64 w, AV.w64 m, AV.w64 n, AV.int IntKind.i64 k, AV.int IntKind.i64 j], AV.agg [AV.w64 c, AV.w64 d, AV.w64 p, AV.w64 q, AV.int IntKind.i64 s, AV.int IntKind.i64 t]]) 29 ((0 : Nat) + Int.toNat 1) 0 = some (AV.agg [AV.w64 c, AV.w64 d, AV.w64 p, AV.w64 q, AV.int IntKind.i64 s, AV.int IntKind.i64 t]) ∧ abE (En.mk v w m n k j) (En.mk c d p q s t) = true ∧ Decidable.decide ((2 : Int) < (↑(List.length [AV.agg [AV.w64 v, AV.w64 w, AV.w64 m, AV.w64 n, AV.int IntKind.i64 k, AV.int IntKind.i64 j], AV.agg [AV.w64 c, AV.w64 d, AV.w64 p, AV.w64 q, AV.int IntKind.i64 s, AV.int IntKind.i64 t]]) : Int)) = false ∧ AV.int IntKind.i64 (↑(nat_lit 0 + (1 : Nat) + (1 : Nat)) : Int) = AV.int IntKind.i64 2) ∧ ((Decidable.decide ((1 : Int) < (↑(List.length [AV.agg [AV.w64 v, AV.w64 w, AV.w64 m, AV.w64 n, AV.int IntKind.i64 k, AV.int IntKind.i64 j], AV.agg [AV.w64 c, AV.w64 d, AV.w64 p, AV.w64 q, AV.int IntKind.i64 s, AV.int IntKind.i64 t]]) : Int)) = true ∧ ((0 : Int) ≤ (1 : Int) ∧ (1 : Int) < (↑(List.length [AV.agg [AV.w64 v, AV.w64 w, AV.w64 m, AV.w64 n, AV.int IntKind.i64 k, AV.int IntKind.i64 j], AV.agg [AV.w64 c, AV.w64 d, AV.w64 p, AV.w64 q, AV.int IntKind.i64 s, AV.int IntKind.i64 t]]) : Int)) ∧ Blk.read Proofs.Try.prog (Blk.mk true (29 : TypeId) 6 true [AV.agg [AV.w64 v, AV.w64 w, AV.w64 m, AV.w64 n, AV.int IntKind.i64 k, AV.int IntKind.i64 j], AV.agg [AV.w64 c, AV.w64 d, AV.w64 p, AV.w64 q, AV.int IntKind.i64 s, AV.int IntKind.i64 t]]) 29 ((0 : Nat) + Int.toNat 1) 0 = some (AV.agg [AV.w64 c, AV.w64 d, AV.w64 p, AV.w64 q, AV.int IntKind.i64 s, AV.int IntKind.i64 t]) ∧ abE (En.mk v w m n k j) (En.mk c d p q s t) = true ∧ Decidable.decide ((2 : Int) < (↑(List.length [AV.agg [AV.w64 v, AV.w64 w, AV.w64 m, AV.w64 n, AV.int IntKind.i64 k, AV.int IntKind.i64 j], AV.agg [AV.w64 c, AV.w64 d, AV.w64 p, AV.w64 q, AV.int IntKind.i64 s, AV.int IntKind.i64 t]]) : Int)) = false ∧ AV.int IntKind.i64 (↑(nat_lit 0 + (1 : Nat) + (1 : Nat)) : Int) = AV.int IntKind.i64 2) ∧ Decidable.decide ((1 : Int) < (↑(List.length [AV.agg [AV.w64 v, AV.w64 w, AV.w64 m, AV.w64 n, AV.int IntKind.i64 k, AV.int IntKind.i64 j], AV.agg [AV.w64 c, AV.w64 d, AV.w64 p, AV.w64 q, AV.int IntKind.i64 s, AV.int IntKind.i64 t]]) : Int)) = true ∧ ((0 : Int) ≤ (1 : Int) ∧ (1 : Int) < (↑(List.length [AV.agg [AV.w64 v, AV.w64 w, AV.w64 m, AV.w64 n, AV.int IntKind.i64 k, AV.int IntKind.i64 j], AV.agg [AV.w64 c, AV.w64 d, AV.w64 p, AV.w64 q, AV.int IntKind.i64 s, AV.int IntKind.i64 t]]) : Int)) ∧ Blk.read Proofs.Try.prog (Blk.mk true (29 : TypeId) 6 true [AV.agg [AV.w64 v, AV.w64 w, AV.w64 m, AV.w64 n, AV.int IntKind.i64 k, AV.int IntKind.i64 j], AV.agg [AV.w64 c, AV.w64 d, AV.w64 p, AV.w64 q, AV.int IntKind.i64 s, AV.int IntKind.i64 t]]) 29 ((0 : Nat) + Int.toNat 1) 0 = some (AV.agg [AV.w64 c, AV.w64 d, AV.w64 p, AV.w64 q, AV.int IntKind.i64 s, AV.int IntKind.i64 t]) ∧ abE (En.mk v w m n k j) (En.mk c d p q s t) = true ∧ Decidable.decide ((2 : Int) < (↑(List.length [AV.agg [AV.w64 v, AV.w64 w, AV.w64 m, AV.w64 n, AV.int IntKind.i64 k, AV.int IntKind.i64 j], AV.agg [AV.w64 c, AV.w64 d, AV.w64 p, AV.w64 q, AV.int IntKind.i64 s, AV.int IntKind.i64 t]]) : Int)) = false ∧ AV.int IntKind.i64 (↑(nat_lit 0 + (1 : Nat) + (1 : Nat)) : Int) = AV.int IntKind.i64 2) ∧ ((Decidable.decide ((1 : Int) < (↑(List.length [AV.agg [AV.w64 v, AV.w64 w, AV.w64 m, AV.w64 n, AV.int IntKind.i64 k, AV.int IntKind.i64 j], AV.agg [AV.w64 c, AV.w64 d, AV.w64 p, AV.w64 q, AV.int IntKind.i64 s, AV.int IntKind.i64 t]]) : Int)) = true ∧ ((0 : Int) ≤ (1 : Int) ∧ (1 : Int) < (↑(List.length [AV.agg [AV.w64 v, AV.w64 w, AV.w64 m, AV.w64 n, AV.int IntKind.i64 k, AV.int IntKind.i64 j], AV.agg [AV.w64 c, AV.w64 d, AV.w64 p, AV.w64 q, AV.int IntKind.i64 s, AV.int IntKind.i64 t]]) : Int)) ∧ Blk.read Proofs.Try.prog (Blk.mk true (29 : TypeId) 6 true [AV.agg [AV.w64 v, AV.w64 w, AV.w64 m, AV.w64 n, AV.int IntKind.i64 k, AV.int IntKind.i64 j], AV.agg [AV.w64 c, AV.w64 d, AV.w64 p, AV.w64 q, AV.int IntKind.i64 s, AV.int IntKind.i64 t]]) 29 ((0 : Nat) + Int.toNat 1) 0 = some (AV.agg [AV.w64 c, AV.w64 d, AV.w64 p, AV.w64 q, AV.int IntKind.i64 s, AV.int IntKind.i64 t]) ∧ abE (En.mk v w m n k j) (En.mk c d p q s t) = true ∧ Decidable.decide ((2 : Int) < (↑(List.length [AV.agg [AV.w64 v, AV.w64 w, AV.w64 m, AV.w64 n, AV.int IntKind.i64 k, AV.int IntKind.i64 j], AV.agg [AV.w64 c, AV.w64 d, AV.w64 p, AV.w64 q, AV.int IntKind.i64 s, AV.int IntKind.i64 t]]) : Int)) = false ∧ AV.int IntKind.i64 (↑(nat_lit 0 + (1 : Nat) + (1 : Nat)) : Int) = AV.int IntKind.i64 2) ∧ Decidable.decide ((1 : Int) < (↑(List.length [AV.agg [AV.w64 v, AV.w64 w, AV.w64 m, AV.w64 n, AV.int IntKind.i64 k, AV.int IntKind.i64 j], AV.agg [AV.w64 c, AV.w64 d, AV.w64 p, AV.w64 q, AV.int IntKind.i64 s, AV.int IntKind.i64 t]]) : Int)) = true ∧ ((0 : Int) ≤ (1 : Int) ∧ (1 : Int) < (↑(List.length [AV.agg [AV.w64 v, AV.w64 w, AV.w64 m, AV.w64 n, AV.int IntKind.i64 k, AV.int IntKind.i64 j], AV.agg [AV.w64 c, AV.w64 d, AV.w64 p, AV.w64 q, AV.int IntKind.i64 s, AV.int IntKind.i64 t]]) : Int)) ∧ Blk.read Proofs.Try.prog (Blk.mk true (29 : TypeId) 6 true [AV.agg [AV.w64 v, AV.w64 w, AV.w64 m, AV.w64 n, AV.int IntKind.i64 k, AV.int IntKind.i64 j], AV.agg [AV.w64 c, AV.w64 d, AV.w64 p, AV.w64 q, AV.int IntKind.i64 s, AV.int IntKind.i64 t]]) 29 ((0 : Nat) + Int.toNat 1) 0 = some (AV.agg [AV.w64 c, AV.w64 d, AV.w64 p, AV.w64 q, AV.int IntKind.i64 s, AV.int IntKind.i64 t]) ∧ abE (En.mk v w m n k j) (En.mk c d p q s t) = true ∧ Decidable.decide ((2 : Int) < (↑(List.length [AV.agg [AV.w64 v, AV.w64 w, AV.w64 m, AV.w64 n, AV.int IntKind.i64 k, AV.int IntKind.i64 j], AV.agg [AV.w64 c, AV.w64 d, AV.w64 p, AV.w64 q, AV.int IntKind.i64 s, AV.int IntKind.i64 t]]) : Int)) = false ∧ AV.int IntKind.i64 (↑(nat_lit 0 + (1 : Nat) + (1 : Nat)) : Int) = AV.int IntKind.i64 2) ∧ (Decidable.decide ((1 : Int) < (↑(List.length [AV.agg [AV.w64 v, AV.w64 w, AV.w64 m, AV.w64 n, AV.int IntKind.i64 k, AV.int IntKind.i64 j], AV.agg [AV.w64 c, AV.w64 d, AV.w64 p, AV.w64 q, AV.int IntKind.i64 s, AV.int IntKind.i64 t]]) : Int)) = true ∧ ((0 : Int) ≤ (1 : Int) ∧ (1 : Int) < (↑(List.length [AV.agg [AV.w64 v, AV.w64 w, AV.w64 m, AV.w64 n, AV.int IntKind.i64 k, AV.int IntKind.i64 j], AV.agg [AV.w64 c, AV.w64 d, AV.w64 p, AV.w64 q, AV.int IntKind.i64 s, AV.int IntKind.i64 t]]) : Int)) ∧ Blk.read Proofs.Try.prog (Blk.mk true (29 : TypeId) 6 true [AV.agg [AV.w64 v, AV.w64 w, AV.w64 m, AV.w64 n, AV.int IntKind.i64 k, AV.int IntKind.i64 j], AV.agg [AV.w64 c, AV.w64 d, AV.w64 p, AV.w64 q, AV.int IntKind.i64 s, AV.int IntKind.i64 t]]) 29 ((0 : Nat) + Int.toNat 1) 0 = some (AV.agg [AV.w64 c, AV.w64 d, AV.w64 p, AV.w64 q, AV.int IntKind.i64 s, AV.int IntKind.i64 t]) ∧ abE (En.mk v w m n k j) (En.mk c d p q s t) = true ∧ Decidable.decide ((2 : Int) < (↑(List.length [AV.agg [AV.w64 v, AV.w64 w, AV.w64 m, AV.w64 n, AV.int IntKind.i64 k, AV.int IntKind.i64 j], AV.agg [AV.w64 c, AV.w64 d, AV.w64 p, AV.w64 q, AV.int IntKind.i64 s, AV.int IntKind.i64 t]]) : Int)) = false ∧ AV.int IntKind.i64 (↑(nat_lit 0 + (1 : Nat) + (1 : Nat)) : Int) = AV.int IntKind.i64 2) ∧ Decidable.decide ((1 : Int) < (↑(List.length [AV.agg [AV.w64 v, AV.w64 w, AV.w64 m, AV.w64 n, AV.int IntKind.i64 k, AV.int IntKind.i64 j], AV.agg [AV.w64 c, AV.w64 d, AV.w64 p, AV.w64 q, AV.int IntKind.i64 s, AV.int IntKind.i64 t]]) : Int)) = true ∧ ((0 : Int) ≤ (1 : Int) ∧ (1 : Int) < (↑(List.length [AV.agg [AV.w64 v, AV.w64 w, AV.w64 m, AV.w64 n, AV.int IntKind.i64 k, AV.int IntKind.i64 j], AV.agg [AV.w64 c, AV.w64 d, AV.w64 p, AV.w64 q, AV.int IntKind.i64 s, AV.int IntKind.i64 t]]) : Int)) ∧ Blk.read Proofs.Try.prog (Blk.mk true (29 : TypeId) 6 true [AV.agg [AV.w64 v, AV.w64 w, AV.w64 m, AV.w64 n, AV.int IntKind.i64 k, AV.int IntKind.i64 j], AV.agg [AV.w64 c, AV.w64 d, AV.w64 p, AV.w64 q, AV.int IntKind.i64 s, AV.int IntKind.i64 t]]) 29 ((0 : Nat) + Int.toNat 1) 0 = some (AV.agg [AV.w64 c, AV.w64 d, AV.w64 p, AV.w64 q, AV.int IntKind.i64 s, AV.int IntKind.i64 t]) ∧ abE (En.mk v w m n k j) (En.mk c d p q s t) = true ∧ Decidable.decide ((2 : Int) < (↑(List.length [AV.agg [AV.w64 v, AV.w64 w, AV.w64 m, AV.w64 n, AV.int IntKind.i64 k, AV.int IntKind.i64 j], AV.agg [AV.w64 c, AV.w64 d, AV.w64 p, AV.w64 q, AV.int IntKind.i64 s, AV.int IntKind.i64 t]]) : Int)) = false ∧ AV.int IntKind.i64 (↑(nat_lit 0 + (1 : Nat) + (1 : Nat)) : Int) = AV.int IntKind.i64 2) := by kernel_rfl

theorem gchain13_law (x y : En) (h1 : srE [x, y] = [x, y]) (h2 : abE x y = true) : ∃ hs, run gchain13Cs Try.prog 31 [.vsl 0 0 2] [some ⟨false, 29, 6, true, [enE x, enE y]⟩] hs (yields (.v (.int .i64 2))) := by
  obtain ⟨v, w, m, n, k, j⟩ := x
  obtain ⟨c, d, p, q, s, t⟩ := y
  refine ⟨ch13H ⟨v, w, m, n, k, j⟩ ⟨c, d, p, q, s, t⟩, ?_⟩
  rw [gchain13_run]
  generalize hx : (⟨v, w, m, n, k, j⟩ : En) = x at h1 h2 ⊢
  generalize hy : (⟨c, d, p, q, s, t⟩ : En) = y at h1 h2 ⊢
  have hD : deE [enE x, enE y] = [x, y] := deE_map [x, y]
  have hS : List.map enE (srE (deE [enE x, enE y])) = [enE x, enE y] := by rw [hD, h1]; rfl
  have r1 : (Blk.mk true 29 6 true [enE x, enE y]).read Try.prog 29 (0 + Int.toNat 0) 0 = some (enE x) := read_rows (l := [x, y]) (Int.le_refl 0) (by rw [List.length_map]; exact Int.ofNat_lt.2 (by decide : 0 < 2)) (en_whole _)
  have r2 : (Blk.mk true 29 6 true [enE x, enE y]).read Try.prog 29 (0 + Int.toNat 1) 0 = some (enE y) := read_rows (l := [x, y]) (by decide) (by rw [List.length_map]; exact Int.ofNat_lt.2 (by decide : 1 < 2)) (en_whole _)
  have l1 : (deE [enE x, enE y]).length ≤ 1000000 := by rw [hD]; exact Nat.le_of_ble_eq_true rfl
  subst hx hy
  have t1 : decide ((0 : Int) < (([enE ⟨v, w, m, n, k, j⟩, enE ⟨c, d, p, q, s, t⟩] : List AV).length : Int)) = true := rfl
  have t2 : decide ((1 : Int) < (([enE ⟨v, w, m, n, k, j⟩, enE ⟨c, d, p, q, s, t⟩] : List AV).length : Int)) = true := rfl
  have t3 : decide ((2 : Int) < (([enE ⟨v, w, m, n, k, j⟩, enE ⟨c, d, p, q, s, t⟩] : List AV).length : Int)) = false := rfl
  have B1 : (0 : Int) ≤ 1 ∧ (1 : Int) < (([enE ⟨v, w, m, n, k, j⟩, enE ⟨c, d, p, q, s, t⟩] : List AV).length : Int) := ⟨by decide, of_decide_eq_true t2⟩
  have fin := And.intro t2 (And.intro B1 (And.intro r2 (And.intro h2 (And.intro t3 (rfl : AV.int IntKind.i64 ((0 + 1 + 1 : Nat) : Int) = AV.int IntKind.i64 2)))))
  refine ⟨Nat.le_refl _, rfl, l1, ⟨hS, congrArg List.length hS⟩, t1, ⟨Int.le_refl 0, of_decide_eq_true t1⟩, r1, ?_⟩
  repeat' first
    | exact fin
    | refine ⟨?_, ?_⟩

theorem gchain13_ok : SpecOK Try.prog 31 (genSpec [pEn] gchain13F) := by
  refine genSpec_ok (run_ok (l := gchain13Cs) gchain13Cs_ok mixed noNG) fun l R hF => ?_
  unfold gchain13F at hF
  split at hF
  · obtain ⟨rfl, hR⟩ := hF
    have h0 : cpE (s13 8).e (s13 0).e ≤ 0 := by
      have : cpE (s13 8).e (s13 0).e = -1 := by kernel_rfl
      omega
    have hS : Sorted [(s13 8).e, (s13 0).e] := by
      unfold Sorted
      simpa using h0
    obtain ⟨hs, hrun⟩ := gchain13_law (s13 8).e (s13 0).e (srE_uniq hS (List.Perm.refl _)).symm (by kernel_rfl)
    exact ⟨_, hR, rfl, hs, hrun⟩
  · exact hF.elim

end Go.Proofs.Ytmkppicnbjoijaa.L1
end

section
/-
  Layer 13: all that the laws call is as said.
-/
namespace Go.Proofs.Ytmkppicnbjoijaa.L1
open Go.Sx Go.Sx.M

theorem cao13_ok : Cao13 where
  hI := ginsert13_ok
  hG := ggap13_ok
  hK := gkept13_ok
  hC := gchain13_ok
  pK := gkept12_ok
  pG := ggap12_ok

theorem k13Cs_ok : ∀ e ∈ k13Cs, SpecOK Try.prog e.1 e.2 := k13Cs_of cao13_ok
theorem l13Cs_ok : ∀ e ∈ l13Cs, SpecOK Try.prog e.1 e.2 := l13Cs_of cao13_ok

end Go.Proofs.Ytmkppicnbjoijaa.L1
end

