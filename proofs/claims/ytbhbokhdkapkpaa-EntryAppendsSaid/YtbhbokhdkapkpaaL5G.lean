/-
  Layer 5: the law EntryCompares: its condition, its proof.
-/
import Derived.Test.YtbhbokhdkapkpaaL5E
namespace Go.Proofs.Ytbhbokhdkapkpaa.L1
open Go.Sx Go.Sx.M

noncomputable def l5gCs : List (FuncId × Sx.Spec) := (30, genSpec [pEn] esortF) :: (16, genSpec [none, none] raboveF) :: (31, genSpec [pRefE] rsortF) :: l5Cs

noncomputable def compares5_run_cut0 (x y z : En) : St := Go.Sx.St.mk [Go.Sx.AV.any, Go.Sx.AV.any, Go.Sx.AV.any, Go.Sx.AV.ptr (0 : Nat) (0 : Nat) (0 : Nat) Bool.true, Go.Sx.AV.ptr ((0 : Nat) + (1 : Nat)) (0 : Nat) (0 : Nat) Bool.true, Go.Sx.AV.ptr ((0 : Nat) + (1 : Nat) + (1 : Nat)) (0 : Nat) (0 : Nat) Bool.true, Go.Sx.AV.any, Go.Sx.AV.int Go.IntKind.i64 (Go.Sx.M.cpE (Go.Sx.M.En.mk x.1 x.2 x.3 x.4 x.5 x.6) (Go.Sx.M.En.mk y.1 y.2 y.3 y.4 y.5 y.6)), Go.Sx.AV.any, Go.Sx.AV.any, Go.Sx.AV.any, Go.Sx.AV.any, Go.Sx.AV.any, Go.Sx.AV.any, Go.Sx.AV.any, Go.Sx.AV.any, Go.Sx.AV.any, Go.Sx.AV.any, Go.Sx.AV.any, Go.Sx.AV.any, Go.Sx.AV.any, Go.Sx.AV.any, Go.Sx.AV.any, Go.Sx.AV.any, Go.Sx.AV.any, Go.Sx.AV.any, Go.Sx.AV.any, Go.Sx.AV.any, Go.Sx.AV.any, Go.Sx.AV.any, Go.Sx.AV.any, Go.Sx.AV.any, Go.Sx.AV.any, Go.Sx.AV.bool !(Go.Sx.M.cpE (Go.Sx.M.En.mk x.1 x.2 x.3 x.4 x.5 x.6) (Go.Sx.M.En.mk y.1 y.2 y.3 y.4 y.5 y.6) == (0 : Int)) == (x.1 == y.1 && x.2 == y.2 && (x.3 == y.3 && x.4 == y.4) && (x.5 == y.5 && x.6 == y.6)), Go.Sx.AV.any, Go.Sx.AV.any, Go.Sx.AV.any, Go.Sx.AV.any, Go.Sx.AV.any, Go.Sx.AV.any, Go.Sx.AV.any, Go.Sx.AV.any, Go.Sx.AV.any, Go.Sx.AV.any, Go.Sx.AV.any, Go.Sx.AV.any, Go.Sx.AV.any, Go.Sx.AV.any, Go.Sx.AV.any, Go.Sx.AV.any, Go.Sx.AV.any] [Option.some (Go.Sx.Blk.mk Bool.true (28 : Nat) (6 : Nat) Bool.true [Go.Sx.AV.agg [Go.Sx.AV.w64 x.1, Go.Sx.AV.w64 x.2, Go.Sx.AV.w64 x.3, Go.Sx.AV.w64 x.4, Go.Sx.AV.int Go.IntKind.i64 x.5, Go.Sx.AV.int Go.IntKind.i64 x.6]]), Option.some (Go.Sx.Blk.mk Bool.true (28 : Nat) (6 : Nat) Bool.true [Go.Sx.AV.agg [Go.Sx.AV.w64 y.1, Go.Sx.AV.w64 y.2, Go.Sx.AV.w64 y.3, Go.Sx.AV.w64 y.4, Go.Sx.AV.int Go.IntKind.i64 y.5, Go.Sx.AV.int Go.IntKind.i64 y.6]]), Option.some (Go.Sx.Blk.mk Bool.true (28 : Nat) (6 : Nat) Bool.true [Go.Sx.AV.agg [Go.Sx.AV.w64 z.1, Go.Sx.AV.w64 z.2, Go.Sx.AV.w64 z.3, Go.Sx.AV.w64 z.4, Go.Sx.AV.int Go.IntKind.i64 z.5, Go.Sx.AV.int Go.IntKind.i64 z.6]])]

theorem compares5_run (x y z : En) : run l5gCs Try.prog 7 [enE x, enE y, enE z] [] [.cut 51 [3, 4, 5, 7, 33] (compares5_run_cut0 x y z) [.br false, .br false], .br false, .fork [] [.fork [] [.br true]]] isTrue =
    (((Go.Sx.M.cpE (Go.Sx.M.En.mk x.1 x.2 x.3 x.4 x.5 x.6) (Go.Sx.M.En.mk y.1 y.2 y.3 y.4 y.5 y.6) != Go.Sx.M.cpE (Go.Sx.M.En.mk x.1 x.2 x.3 x.4 x.5 x.6) (Go.Sx.M.En.mk y.1 y.2 y.3 y.4 y.5 y.6)) = Bool.false ∧ (Go.Sx.M.cpE (Go.Sx.M.En.mk x.1 x.2 x.3 x.4 x.5 x.6) (Go.Sx.M.En.mk y.1 y.2 y.3 y.4 y.5 y.6) != Go.IntKind.wrap Go.IntKind.i64 ((0 : Int) - Go.Sx.M.cpE (Go.Sx.M.En.mk y.1 y.2 y.3 y.4 y.5 y.6) (Go.Sx.M.En.mk x.1 x.2 x.3 x.4 x.5 x.6))) = Bool.false ∧ ∃ (_ : Unit), (compares5_run_cut0 x y z) = (compares5_run_cut0 x y z) ∧ True) ∧ ∀ (_ : Unit), True → (!(Go.Sx.M.cpE (Go.Sx.M.En.mk x.1 x.2 x.3 x.4 x.5 x.6) (Go.Sx.M.En.mk y.1 y.2 y.3 y.4 y.5 y.6) == (0 : Int)) == (x.1 == y.1 && x.2 == y.2 && (x.3 == y.3 && x.4 == y.4) && (x.5 == y.5 && x.6 == y.6))) = Bool.false ∧ (Decidable.decide (Go.Sx.M.cpE (Go.Sx.M.En.mk x.1 x.2 x.3 x.4 x.5 x.6) (Go.Sx.M.En.mk y.1 y.2 y.3 y.4 y.5 y.6) > (0 : Int)) = Bool.true → True ∧ Bool.true = Bool.true) ∧ (Decidable.decide (Go.Sx.M.cpE (Go.Sx.M.En.mk x.1 x.2 x.3 x.4 x.5 x.6) (Go.Sx.M.En.mk y.1 y.2 y.3 y.4 y.5 y.6) > (0 : Int)) = Bool.false → (Decidable.decide (Go.Sx.M.cpE (Go.Sx.M.En.mk y.1 y.2 y.3 y.4 y.5 y.6) (Go.Sx.M.En.mk z.1 z.2 z.3 z.4 z.5 z.6) > (0 : Int)) = Bool.true → True ∧ Bool.true = Bool.true) ∧ (Decidable.decide (Go.Sx.M.cpE (Go.Sx.M.En.mk y.1 y.2 y.3 y.4 y.5 y.6) (Go.Sx.M.En.mk z.1 z.2 z.3 z.4 z.5 z.6) > (0 : Int)) = Bool.false → Decidable.decide (Go.Sx.M.cpE (Go.Sx.M.En.mk x.1 x.2 x.3 x.4 x.5 x.6) (Go.Sx.M.En.mk z.1 z.2 z.3 z.4 z.5 z.6) ≤ (0 : Int)) = Bool.true ∧ True ∧ Bool.true = Bool.true))) := by kernel_rfl

theorem en_eq (x y : En) : (x.1 == y.1 && x.2 == y.2 && (x.3 == y.3 && x.4 == y.4) && (x.5 == y.5 && x.6 == y.6)) = decide (x = y) := by
  rw [Bool.eq_iff_iff, decide_eq_true_eq]
  simp only [Bool.and_eq_true, beq_iff_eq]
  constructor
  · rintro ⟨⟨⟨h1, h2⟩, h3, h4⟩, h5, h6⟩
    cases x; cases y; simp_all
  · rintro rfl; simp

theorem compares5_law (x y z : En) : ∃ hs, run l5gCs Try.prog 7 [enE x, enE y, enE z] [] hs isTrue := by
  refine ⟨[.cut 51 [3, 4, 5, 7, 33] (compares5_run_cut0 x y z) [.br false, .br false], .br false, .fork [] [.fork [] [.br true]]], ?_⟩
  rw [compares5_run]
  have b := cpE_small y x
  refine ⟨⟨by simp, ?_, (), rfl, trivial⟩, fun _ _ => ⟨?_, fun _ => ⟨trivial, rfl⟩, fun h1 => ⟨fun _ => ⟨trivial, rfl⟩, fun h2 => ⟨?_, trivial, rfl⟩⟩⟩⟩
  · show (cpE x y != IntKind.i64.wrap (0 - cpE y x)) = false
    rw [wrap_inRange (inR (by omega) (by omega)), cpE_turn x y]
    simp
  · rw [en_eq]
    show (!(cpE x y == 0) == decide (x = y)) = false
    rw [show (cpE x y == 0) = decide (x = y) from by rw [Bool.eq_iff_iff, beq_iff_eq, decide_eq_true_eq]; exact cpE_zero]
    simp
  · have h1 : ¬ cpE x y > 0 := of_decide_eq_false h1
    have h2 : ¬ cpE y z > 0 := of_decide_eq_false h2
    exact decide_eq_true (cpE_trans (x := x) (y := y) (z := z) (by omega) (by omega))

end Go.Proofs.Ytbhbokhdkapkpaa.L1
