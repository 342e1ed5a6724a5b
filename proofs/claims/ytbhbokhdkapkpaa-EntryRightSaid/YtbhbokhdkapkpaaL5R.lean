/-
  Layer 5: the law EntryRight: its condition, its proof.
-/
import Derived.Test.YtbhbokhdkapkpaaL5Q
namespace Go.Proofs.Ytbhbokhdkapkpaa.L1
open Go.Sx Go.Sx.M

def riSt (x y : En) (a b : BitVec 64) (k j : Int) (c : Bool) : St :=
  ⟨[.any, .any, .any, .int .i64 j, .ptr 0 0 0 true, .ptr 1 0 0 true, .ptr 2 0 0 true, .any, .any, .bool c, .any, .any, .any, .any, .any, .any, .any, .any, .any, .any, .any, .any, .any, .any, .any, .any, .any, .any, .any, .any, .any, .any, .any, .any, .any, .any, .any, .any, .any, .any, .any, .any, .any, .any, .any, .any, .any, .any, .any, .any, .any, .any, .any, .any, .any, .any, .any, .any, .any, .any, .any, .any, .any, .any, .any, .any, .any, .any, .any, .any, .any, .any, .any, .any, .any, .any, .any, .any, .any, .any, .any, .any, .any, .any, .any, .any, .any, .any, .any, .any, .any, .any, .any, .any, .any, .any, .any, .any, .any, .any, .any, .any, .any, .any, .any, .any, .any, .any, .any, .any, .any, .any, .any, .any, .any, .any, .any, .any, .any, .any, .any], [some ⟨true, 28, 6, true, [enE x]⟩, some ⟨true, 28, 6, true, [enE y]⟩, some ⟨true, 30, 3, true, [.agg [.w64 a, .w64 b, .int .i64 k]]⟩]⟩
def riM : Modes := ⟨[0, 0, 0, 1, 1, 1, 1, 0, 0, 2, 0, 0, 0, 0, 0, 0, 0, 0, 0, 0, 0, 0, 0, 0, 0, 0, 0, 0, 0, 0, 0, 0, 0, 0, 0, 0, 0, 0, 0, 0, 0, 0, 0, 0, 0, 0, 0, 0, 0, 0, 0, 0, 0, 0, 0, 0, 0, 0, 0, 0, 0, 0, 0, 0, 0, 0, 0, 0, 0, 0, 0, 0, 0, 0, 0, 0, 0, 0, 0, 0, 0, 0, 0, 0, 0, 0, 0, 0, 0, 0, 0, 0, 0, 0, 0, 0, 0, 0, 0, 0, 0, 0, 0, 0, 0, 0, 0, 0, 0, 0, 0, 0, 0, 0, 0, 0, 0, 0, 0, 0, 0], [], [], [], []⟩
def riH (x y : En) (a b : BitVec 64) (k j : Int) : List Hint := [.mrg true Bool (riSt x y a b k j) (fun c => c = rtE x) riM [.fork [.fork [.fork [.fork [] []] []] []] []] (fun _ => []),
  .br true, .br true, .br true, .br true, .br true, .br true, .fork [.br true] [.br true]]

def near2F : List Arg → (Res → Prop) → Prop
  | [.v (.int .i64 n)], R => R (.v (.int .i64 (clamp n)))
  | _, _ => False

theorem near2_run (n : Int) (r : AV) : run [] Try.prog 36 [.int .i64 n] [] [.fork [] [.fork [] []]] (yields (.v r)) =
    ((Decidable.decide (n < (0 : Int)) = Bool.true → Go.Sx.AV.int Go.IntKind.i64 (0 : Int) = r) ∧ (Decidable.decide (n < (0 : Int)) = Bool.false → (Decidable.decide (n > (128 : Int)) = Bool.true → Go.Sx.AV.int Go.IntKind.i64 (128 : Int) = r) ∧ (Decidable.decide (n > (128 : Int)) = Bool.false → Go.Sx.AV.int Go.IntKind.i64 n = r))) := by kernel_rfl

theorem near2_ok : SpecOK Try.prog 36 (genSpec [none] near2F) := by
  refine genSpec_ok none_ok fun l R hF => ?_
  unfold near2F at hF
  split at hF
  · rename_i n
    refine ⟨_, hF, rfl, [.fork [] [.fork [] []]], ?_⟩
    show run [] Try.prog _ [.int .i64 n] [] _ _
    rw [near2_run]
    simp only [decide_eq_true_eq, decide_eq_false_iff_not]
    refine ⟨fun h => ?_, fun h => ⟨fun h2 => ?_, fun h2 => ?_⟩⟩
    all_goals
      congr 1
      unfold clamp
      omega
  · exact hF.elim


noncomputable def rmake2Cs : List (FuncId × Sx.Spec) := [(36, genSpec [none] near2F),
  (14, genSpec [none] maskF),
  (11, genSpec [none, none, none] opF)]

theorem rmake2_run (a b : BitVec 64) (n : Int) (r : AV) : run rmake2Cs Try.prog 12 [.agg [.w64 a, .w64 b], .int .i64 n] [] [] (yields (.v r)) =
    (Go.Sx.AV.agg [Go.Sx.AV.w64 (Go.Proofs.Ytbhbokhdkapkpaa.L1.opW (0 : Int) a (Go.Proofs.Ytbhbokhdkapkpaa.L1.mkW (Go.Proofs.Ytbhbokhdkapkpaa.L1.clamp n))), Go.Sx.AV.w64 (Go.Proofs.Ytbhbokhdkapkpaa.L1.opW (0 : Int) b (Go.Proofs.Ytbhbokhdkapkpaa.L1.mkW (Go.Proofs.Ytbhbokhdkapkpaa.L1.clamp n - (64 : Int)))), Go.Sx.AV.int Go.IntKind.i64 (Go.Proofs.Ytbhbokhdkapkpaa.L1.clamp n)] = r) := by kernel_rfl

theorem rmake2Cs_ok : ∀ e ∈ rmake2Cs, SpecOK Try.prog e.1 e.2 := by
  intro e he
  simp only [rmake2Cs, List.mem_cons, List.not_mem_nil, or_false] at he
  rcases he with rfl | rfl | rfl
  · exact near2_ok
  · exact mask_ok
  · exact op_ok

theorem rmake2_ok : SpecOK Try.prog 12 (genSpec [none, none] makeF) := by
  refine genSpec_ok (run_ok (l := rmake2Cs) rmake2Cs_ok mixed noNG) fun l R hF => ?_
  unfold makeF at hF
  split at hF
  · rename_i a b n
    refine ⟨_, hF, rfl, [], ?_⟩
    show run rmake2Cs Try.prog _ [.agg [.w64 a, .w64 b], .int .i64 n] [] _ _
    rw [rmake2_run]
    have e : ∀ x y : BitVec 64, opW 0 x y = x &&& y := fun x y => rfl
    simp only [e, (mkW_clamp n).1, (mkW_clamp n).2]
  · exact hF.elim


noncomputable def right5Cs : List (FuncId × Sx.Spec) := [(20, awakeSpec),
  (18, genSpec [none] one5F),
  (15, genSpec [none] erightF),
  (16, genSpec [none, none] raboveF),
  (19, genSpec [none, none] ealikeF),
  (13, genSpec [none, none] eofF),
  (17, genSpec [none, none] raboveF),
  (12, genSpec [none, none] makeF),
  (14, genSpec [none] maskF),
  (11, genSpec [none, none, none] opF)]

theorem right5Cs_ok : ∀ e ∈ right5Cs, SpecOK Try.prog e.1 e.2 := by
  intro e he
  simp only [right5Cs, List.mem_cons, List.not_mem_nil, or_false] at he
  rcases he with rfl | rfl | rfl | rfl | rfl | rfl | rfl | rfl | rfl | rfl
  · exact awake5_ok
  · exact one5_ok
  · exact eright_ok
  · exact eabove_ok
  · exact ealike_ok
  · exact eof_ok
  · exact rabove_ok
  · exact rmake2_ok
  · exact mask_ok
  · exact op_ok

theorem right5_run (x y : En) (a b : BitVec 64) (k j : Int) : run right5Cs Try.prog 3 [enE x, enE y, .agg [.w64 a, .w64 b, .int .i64 k], .int .i64 j] [] (riH x y a b k j) isTrue =
    (((Go.Sx.andAll [Go.Proofs.Ytbhbokhdkapkpaa.L1.opW (0 : Int) (Go.Sx.M.En.v x) (Go.Sx.M.En.m x) == Go.Sx.M.En.v x, Go.Proofs.Ytbhbokhdkapkpaa.L1.opW (0 : Int) (Go.Sx.M.En.w x) (Go.Sx.M.En.n x) == Go.Sx.M.En.w x] = Bool.true → (Decidable.decide (Go.Sx.M.En.len x ≥ (0 : Int)) = Bool.true → (Decidable.decide (Go.Sx.M.En.len x ≤ (128 : Int)) = Bool.true → (Decidable.decide (Go.Sx.M.En.act x ≥ (1 : Int)) = Bool.true → ∃ (p : Bool), Go.Sx.St.mk [Go.Sx.AV.any, Go.Sx.AV.any, Go.Sx.AV.any, Go.Sx.AV.int Go.IntKind.i64 j, Go.Sx.AV.ptr (0 : Nat) (0 : Nat) (0 : Nat) Bool.true, Go.Sx.AV.ptr ((0 : Nat) + (1 : Nat)) (0 : Nat) (0 : Nat) Bool.true, Go.Sx.AV.ptr ((0 : Nat) + (1 : Nat) + (1 : Nat)) (0 : Nat) (0 : Nat) Bool.true, Go.Sx.AV.any, Go.Sx.AV.any, Go.Sx.AV.bool (Decidable.decide (x.6 ≤ (255 : Int))), Go.Sx.AV.any, Go.Sx.AV.any, Go.Sx.AV.any, Go.Sx.AV.any, Go.Sx.AV.any, Go.Sx.AV.any, Go.Sx.AV.any, Go.Sx.AV.any, Go.Sx.AV.any, Go.Sx.AV.any, Go.Sx.AV.any, Go.Sx.AV.any, Go.Sx.AV.any, Go.Sx.AV.any, Go.Sx.AV.any, Go.Sx.AV.any, Go.Sx.AV.any, Go.Sx.AV.any, Go.Sx.AV.any, Go.Sx.AV.any, Go.Sx.AV.any, Go.Sx.AV.any, Go.Sx.AV.any, Go.Sx.AV.any, Go.Sx.AV.any, Go.Sx.AV.any, Go.Sx.AV.any, Go.Sx.AV.any, Go.Sx.AV.any, Go.Sx.AV.any, Go.Sx.AV.any, Go.Sx.AV.any, Go.Sx.AV.any, Go.Sx.AV.any, Go.Sx.AV.any, Go.Sx.AV.any, Go.Sx.AV.any, Go.Sx.AV.any, Go.Sx.AV.any, Go.Sx.AV.any, Go.Sx.AV.any, Go.Sx.AV.any, Go.Sx.AV.any, Go.Sx.AV.any, Go.Sx.AV.any, Go.Sx.AV.any, Go.Sx.AV.any, Go.Sx.AV.any, Go.Sx.AV.any, Go.Sx.AV.any, Go.Sx.AV.any, Go.Sx.AV.any, Go.Sx.AV.any, Go.Sx.AV.any, Go.Sx.AV.any, Go.Sx.AV.any, Go.Sx.AV.any, Go.Sx.AV.any, Go.Sx.AV.any, Go.Sx.AV.any, Go.Sx.AV.any, Go.Sx.AV.any, Go.Sx.AV.any, Go.Sx.AV.any, Go.Sx.AV.any, Go.Sx.AV.any, Go.Sx.AV.any, Go.Sx.AV.any, Go.Sx.AV.any, Go.Sx.AV.any, Go.Sx.AV.any, Go.Sx.AV.any, Go.Sx.AV.any, Go.Sx.AV.any, Go.Sx.AV.any, Go.Sx.AV.any, Go.Sx.AV.any, Go.Sx.AV.any, Go.Sx.AV.any, Go.Sx.AV.any, Go.Sx.AV.any, Go.Sx.AV.any, Go.Sx.AV.any, Go.Sx.AV.any, Go.Sx.AV.any, Go.Sx.AV.any, Go.Sx.AV.any, Go.Sx.AV.any, Go.Sx.AV.any, Go.Sx.AV.any, Go.Sx.AV.any, Go.Sx.AV.any, Go.Sx.AV.any, Go.Sx.AV.any, Go.Sx.AV.any, Go.Sx.AV.any, Go.Sx.AV.any, Go.Sx.AV.any, Go.Sx.AV.any, Go.Sx.AV.any, Go.Sx.AV.any, Go.Sx.AV.any, Go.Sx.AV.any, Go.Sx.AV.any, Go.Sx.AV.any, Go.Sx.AV.any, Go.Sx.AV.any, Go.Sx.AV.any, Go.Sx.AV.any, Go.Sx.AV.any, Go.Sx.AV.any] [Option.some (Go.Sx.Blk.mk Bool.true (28 : Nat) (6 : Nat) Bool.true [Go.Sx.AV.agg [Go.Sx.AV.w64 x.1, Go.Sx.AV.w64 x.2, Go.Sx.AV.w64 x.3, Go.Sx.AV.w64 x.4, Go.Sx.AV.int Go.IntKind.i64 x.5, Go.Sx.AV.int Go.IntKind.i64 x.6]]), Option.some (Go.Sx.Blk.mk Bool.true (28 : Nat) (6 : Nat) Bool.true [Go.Sx.AV.agg [Go.Sx.AV.w64 y.1, Go.Sx.AV.w64 y.2, Go.Sx.AV.w64 y.3, Go.Sx.AV.w64 y.4, Go.Sx.AV.int Go.IntKind.i64 y.5, Go.Sx.AV.int Go.IntKind.i64 y.6]]), Option.some (Go.Sx.Blk.mk Bool.true (30 : Nat) (3 : Nat) Bool.true [Go.Sx.AV.agg [Go.Sx.AV.w64 a, Go.Sx.AV.w64 b, Go.Sx.AV.int Go.IntKind.i64 k]])] = Go.Proofs.Ytbhbokhdkapkpaa.L1.riSt x y a b k j p ∧ p = Go.Sx.M.rtE x) ∧ (Decidable.decide (Go.Sx.M.En.act x ≥ (1 : Int)) = Bool.false → ∃ (p : Bool), Go.Sx.St.mk [Go.Sx.AV.any, Go.Sx.AV.any, Go.Sx.AV.any, Go.Sx.AV.int Go.IntKind.i64 j, Go.Sx.AV.ptr (0 : Nat) (0 : Nat) (0 : Nat) Bool.true, Go.Sx.AV.ptr ((0 : Nat) + (1 : Nat)) (0 : Nat) (0 : Nat) Bool.true, Go.Sx.AV.ptr ((0 : Nat) + (1 : Nat) + (1 : Nat)) (0 : Nat) (0 : Nat) Bool.true, Go.Sx.AV.any, Go.Sx.AV.any, Go.Sx.AV.bool Bool.false, Go.Sx.AV.any, Go.Sx.AV.any, Go.Sx.AV.any, Go.Sx.AV.any, Go.Sx.AV.any, Go.Sx.AV.any, Go.Sx.AV.any, Go.Sx.AV.any, Go.Sx.AV.any, Go.Sx.AV.any, Go.Sx.AV.any, Go.Sx.AV.any, Go.Sx.AV.any, Go.Sx.AV.any, Go.Sx.AV.any, Go.Sx.AV.any, Go.Sx.AV.any, Go.Sx.AV.any, Go.Sx.AV.any, Go.Sx.AV.any, Go.Sx.AV.any, Go.Sx.AV.any, Go.Sx.AV.any, Go.Sx.AV.any, Go.Sx.AV.any, Go.Sx.AV.any, Go.Sx.AV.any, Go.Sx.AV.any, Go.Sx.AV.any, Go.Sx.AV.any, Go.Sx.AV.any, Go.Sx.AV.any, Go.Sx.AV.any, Go.Sx.AV.any, Go.Sx.AV.any, Go.Sx.AV.any, Go.Sx.AV.any, Go.Sx.AV.any, Go.Sx.AV.any, Go.Sx.AV.any, Go.Sx.AV.any, Go.Sx.AV.any, Go.Sx.AV.any, Go.Sx.AV.any, Go.Sx.AV.any, Go.Sx.AV.any, Go.Sx.AV.any, Go.Sx.AV.any, Go.Sx.AV.any, Go.Sx.AV.any, Go.Sx.AV.any, Go.Sx.AV.any, Go.Sx.AV.any, Go.Sx.AV.any, Go.Sx.AV.any, Go.Sx.AV.any, Go.Sx.AV.any, Go.Sx.AV.any, Go.Sx.AV.any, Go.Sx.AV.any, Go.Sx.AV.any, Go.Sx.AV.any, Go.Sx.AV.any, Go.Sx.AV.any, Go.Sx.AV.any, Go.Sx.AV.any, Go.Sx.AV.any, Go.Sx.AV.any, Go.Sx.AV.any, Go.Sx.AV.any, Go.Sx.AV.any, Go.Sx.AV.any, Go.Sx.AV.any, Go.Sx.AV.any, Go.Sx.AV.any, Go.Sx.AV.any, Go.Sx.AV.any, Go.Sx.AV.any, Go.Sx.AV.any, Go.Sx.AV.any, Go.Sx.AV.any, Go.Sx.AV.any, Go.Sx.AV.any, Go.Sx.AV.any, Go.Sx.AV.any, Go.Sx.AV.any, Go.Sx.AV.any, Go.Sx.AV.any, Go.Sx.AV.any, Go.Sx.AV.any, Go.Sx.AV.any, Go.Sx.AV.any, Go.Sx.AV.any, Go.Sx.AV.any, Go.Sx.AV.any, Go.Sx.AV.any, Go.Sx.AV.any, Go.Sx.AV.any, Go.Sx.AV.any, Go.Sx.AV.any, Go.Sx.AV.any, Go.Sx.AV.any, Go.Sx.AV.any, Go.Sx.AV.any, Go.Sx.AV.any, Go.Sx.AV.any, Go.Sx.AV.any, Go.Sx.AV.any, Go.Sx.AV.any, Go.Sx.AV.any, Go.Sx.AV.any] [Option.some (Go.Sx.Blk.mk Bool.true (28 : Nat) (6 : Nat) Bool.true [Go.Sx.AV.agg [Go.Sx.AV.w64 x.1, Go.Sx.AV.w64 x.2, Go.Sx.AV.w64 x.3, Go.Sx.AV.w64 x.4, Go.Sx.AV.int Go.IntKind.i64 x.5, Go.Sx.AV.int Go.IntKind.i64 x.6]]), Option.some (Go.Sx.Blk.mk Bool.true (28 : Nat) (6 : Nat) Bool.true [Go.Sx.AV.agg [Go.Sx.AV.w64 y.1, Go.Sx.AV.w64 y.2, Go.Sx.AV.w64 y.3, Go.Sx.AV.w64 y.4, Go.Sx.AV.int Go.IntKind.i64 y.5, Go.Sx.AV.int Go.IntKind.i64 y.6]]), Option.some (Go.Sx.Blk.mk Bool.true (30 : Nat) (3 : Nat) Bool.true [Go.Sx.AV.agg [Go.Sx.AV.w64 a, Go.Sx.AV.w64 b, Go.Sx.AV.int Go.IntKind.i64 k]])] = Go.Proofs.Ytbhbokhdkapkpaa.L1.riSt x y a b k j p ∧ p = Go.Sx.M.rtE x)) ∧ (Decidable.decide (Go.Sx.M.En.len x ≤ (128 : Int)) = Bool.false → ∃ (p : Bool), Go.Sx.St.mk [Go.Sx.AV.any, Go.Sx.AV.any, Go.Sx.AV.any, Go.Sx.AV.int Go.IntKind.i64 j, Go.Sx.AV.ptr (0 : Nat) (0 : Nat) (0 : Nat) Bool.true, Go.Sx.AV.ptr ((0 : Nat) + (1 : Nat)) (0 : Nat) (0 : Nat) Bool.true, Go.Sx.AV.ptr ((0 : Nat) + (1 : Nat) + (1 : Nat)) (0 : Nat) (0 : Nat) Bool.true, Go.Sx.AV.any, Go.Sx.AV.any, Go.Sx.AV.bool Bool.false, Go.Sx.AV.any, Go.Sx.AV.any, Go.Sx.AV.any, Go.Sx.AV.any, Go.Sx.AV.any, Go.Sx.AV.any, Go.Sx.AV.any, Go.Sx.AV.any, Go.Sx.AV.any, Go.Sx.AV.any, Go.Sx.AV.any, Go.Sx.AV.any, Go.Sx.AV.any, Go.Sx.AV.any, Go.Sx.AV.any, Go.Sx.AV.any, Go.Sx.AV.any, Go.Sx.AV.any, Go.Sx.AV.any, Go.Sx.AV.any, Go.Sx.AV.any, Go.Sx.AV.any, Go.Sx.AV.any, Go.Sx.AV.any, Go.Sx.AV.any, Go.Sx.AV.any, Go.Sx.AV.any, Go.Sx.AV.any, Go.Sx.AV.any, Go.Sx.AV.any, Go.Sx.AV.any, Go.Sx.AV.any, Go.Sx.AV.any, Go.Sx.AV.any, Go.Sx.AV.any, Go.Sx.AV.any, Go.Sx.AV.any, Go.Sx.AV.any, Go.Sx.AV.any, Go.Sx.AV.any, Go.Sx.AV.any, Go.Sx.AV.any, Go.Sx.AV.any, Go.Sx.AV.any, Go.Sx.AV.any, Go.Sx.AV.any, Go.Sx.AV.any, Go.Sx.AV.any, Go.Sx.AV.any, Go.Sx.AV.any, Go.Sx.AV.any, Go.Sx.AV.any, Go.Sx.AV.any, Go.Sx.AV.any, Go.Sx.AV.any, Go.Sx.AV.any, Go.Sx.AV.any, Go.Sx.AV.any, Go.Sx.AV.any, Go.Sx.AV.any, Go.Sx.AV.any, Go.Sx.AV.any, Go.Sx.AV.any, Go.Sx.AV.any, Go.Sx.AV.any, Go.Sx.AV.any, Go.Sx.AV.any, Go.Sx.AV.any, Go.Sx.AV.any, Go.Sx.AV.any, Go.Sx.AV.any, Go.Sx.AV.any, Go.Sx.AV.any, Go.Sx.AV.any, Go.Sx.AV.any, Go.Sx.AV.any, Go.Sx.AV.any, Go.Sx.AV.any, Go.Sx.AV.any, Go.Sx.AV.any, Go.Sx.AV.any, Go.Sx.AV.any, Go.Sx.AV.any, Go.Sx.AV.any, Go.Sx.AV.any, Go.Sx.AV.any, Go.Sx.AV.any, Go.Sx.AV.any, Go.Sx.AV.any, Go.Sx.AV.any, Go.Sx.AV.any, Go.Sx.AV.any, Go.Sx.AV.any, Go.Sx.AV.any, Go.Sx.AV.any, Go.Sx.AV.any, Go.Sx.AV.any, Go.Sx.AV.any, Go.Sx.AV.any, Go.Sx.AV.any, Go.Sx.AV.any, Go.Sx.AV.any, Go.Sx.AV.any, Go.Sx.AV.any, Go.Sx.AV.any, Go.Sx.AV.any, Go.Sx.AV.any, Go.Sx.AV.any, Go.Sx.AV.any, Go.Sx.AV.any, Go.Sx.AV.any] [Option.some (Go.Sx.Blk.mk Bool.true (28 : Nat) (6 : Nat) Bool.true [Go.Sx.AV.agg [Go.Sx.AV.w64 x.1, Go.Sx.AV.w64 x.2, Go.Sx.AV.w64 x.3, Go.Sx.AV.w64 x.4, Go.Sx.AV.int Go.IntKind.i64 x.5, Go.Sx.AV.int Go.IntKind.i64 x.6]]), Option.some (Go.Sx.Blk.mk Bool.true (28 : Nat) (6 : Nat) Bool.true [Go.Sx.AV.agg [Go.Sx.AV.w64 y.1, Go.Sx.AV.w64 y.2, Go.Sx.AV.w64 y.3, Go.Sx.AV.w64 y.4, Go.Sx.AV.int Go.IntKind.i64 y.5, Go.Sx.AV.int Go.IntKind.i64 y.6]]), Option.some (Go.Sx.Blk.mk Bool.true (30 : Nat) (3 : Nat) Bool.true [Go.Sx.AV.agg [Go.Sx.AV.w64 a, Go.Sx.AV.w64 b, Go.Sx.AV.int Go.IntKind.i64 k]])] = Go.Proofs.Ytbhbokhdkapkpaa.L1.riSt x y a b k j p ∧ p = Go.Sx.M.rtE x)) ∧ (Decidable.decide (Go.Sx.M.En.len x ≥ (0 : Int)) = Bool.false → ∃ (p : Bool), Go.Sx.St.mk [Go.Sx.AV.any, Go.Sx.AV.any, Go.Sx.AV.any, Go.Sx.AV.int Go.IntKind.i64 j, Go.Sx.AV.ptr (0 : Nat) (0 : Nat) (0 : Nat) Bool.true, Go.Sx.AV.ptr ((0 : Nat) + (1 : Nat)) (0 : Nat) (0 : Nat) Bool.true, Go.Sx.AV.ptr ((0 : Nat) + (1 : Nat) + (1 : Nat)) (0 : Nat) (0 : Nat) Bool.true, Go.Sx.AV.any, Go.Sx.AV.any, Go.Sx.AV.bool Bool.false, Go.Sx.AV.any, Go.Sx.AV.any, Go.Sx.AV.any, Go.Sx.AV.any, Go.Sx.AV.any, Go.Sx.AV.any, Go.Sx.AV.any, Go.Sx.AV.any, Go.Sx.AV.any, Go.Sx.AV.any, Go.Sx.AV.any, Go.Sx.AV.any, Go.Sx.AV.any, Go.Sx.AV.any, Go.Sx.AV.any, Go.Sx.AV.any, Go.Sx.AV.any, Go.Sx.AV.any, Go.Sx.AV.any, Go.Sx.AV.any, Go.Sx.AV.any, Go.Sx.AV.any, Go.Sx.AV.any, Go.Sx.AV.any, Go.Sx.AV.any, Go.Sx.AV.any, Go.Sx.AV.any, Go.Sx.AV.any, Go.Sx.AV.any, Go.Sx.AV.any, Go.Sx.AV.any, Go.Sx.AV.any, Go.Sx.AV.any, Go.Sx.AV.any, Go.Sx.AV.any, Go.Sx.AV.any, Go.Sx.AV.any, Go.Sx.AV.any, Go.Sx.AV.any, Go.Sx.AV.any, Go.Sx.AV.any, Go.Sx.AV.any, Go.Sx.AV.any, Go.Sx.AV.any, Go.Sx.AV.any, Go.Sx.AV.any, Go.Sx.AV.any, Go.Sx.AV.any, Go.Sx.AV.any, Go.Sx.AV.any, Go.Sx.AV.any, Go.Sx.AV.any, Go.Sx.AV.any, Go.Sx.AV.any, Go.Sx.AV.any, Go.Sx.AV.any, Go.Sx.AV.any, Go.Sx.AV.any, Go.Sx.AV.any, Go.Sx.AV.any, Go.Sx.AV.any, Go.Sx.AV.any, Go.Sx.AV.any, Go.Sx.AV.any, Go.Sx.AV.any, Go.Sx.AV.any, Go.Sx.AV.any, Go.Sx.AV.any, Go.Sx.AV.any, Go.Sx.AV.any, Go.Sx.AV.any, Go.Sx.AV.any, Go.Sx.AV.any, Go.Sx.AV.any, Go.Sx.AV.any, Go.Sx.AV.any, Go.Sx.AV.any, Go.Sx.AV.any, Go.Sx.AV.any, Go.Sx.AV.any, Go.Sx.AV.any, Go.Sx.AV.any, Go.Sx.AV.any, Go.Sx.AV.any, Go.Sx.AV.any, Go.Sx.AV.any, Go.Sx.AV.any, Go.Sx.AV.any, Go.Sx.AV.any, Go.Sx.AV.any, Go.Sx.AV.any, Go.Sx.AV.any, Go.Sx.AV.any, Go.Sx.AV.any, Go.Sx.AV.any, Go.Sx.AV.any, Go.Sx.AV.any, Go.Sx.AV.any, Go.Sx.AV.any, Go.Sx.AV.any, Go.Sx.AV.any, Go.Sx.AV.any, Go.Sx.AV.any, Go.Sx.AV.any, Go.Sx.AV.any, Go.Sx.AV.any, Go.Sx.AV.any, Go.Sx.AV.any, Go.Sx.AV.any, Go.Sx.AV.any, Go.Sx.AV.any] [Option.some (Go.Sx.Blk.mk Bool.true (28 : Nat) (6 : Nat) Bool.true [Go.Sx.AV.agg [Go.Sx.AV.w64 x.1, Go.Sx.AV.w64 x.2, Go.Sx.AV.w64 x.3, Go.Sx.AV.w64 x.4, Go.Sx.AV.int Go.IntKind.i64 x.5, Go.Sx.AV.int Go.IntKind.i64 x.6]]), Option.some (Go.Sx.Blk.mk Bool.true (28 : Nat) (6 : Nat) Bool.true [Go.Sx.AV.agg [Go.Sx.AV.w64 y.1, Go.Sx.AV.w64 y.2, Go.Sx.AV.w64 y.3, Go.Sx.AV.w64 y.4, Go.Sx.AV.int Go.IntKind.i64 y.5, Go.Sx.AV.int Go.IntKind.i64 y.6]]), Option.some (Go.Sx.Blk.mk Bool.true (30 : Nat) (3 : Nat) Bool.true [Go.Sx.AV.agg [Go.Sx.AV.w64 a, Go.Sx.AV.w64 b, Go.Sx.AV.int Go.IntKind.i64 k]])] = Go.Proofs.Ytbhbokhdkapkpaa.L1.riSt x y a b k j p ∧ p = Go.Sx.M.rtE x)) ∧ (Go.Sx.andAll [Go.Proofs.Ytbhbokhdkapkpaa.L1.opW (0 : Int) (Go.Sx.M.En.v x) (Go.Sx.M.En.m x) == Go.Sx.M.En.v x, Go.Proofs.Ytbhbokhdkapkpaa.L1.opW (0 : Int) (Go.Sx.M.En.w x) (Go.Sx.M.En.n x) == Go.Sx.M.En.w x] = Bool.false → ∃ (p : Bool), Go.Sx.St.mk [Go.Sx.AV.any, Go.Sx.AV.any, Go.Sx.AV.any, Go.Sx.AV.int Go.IntKind.i64 j, Go.Sx.AV.ptr (0 : Nat) (0 : Nat) (0 : Nat) Bool.true, Go.Sx.AV.ptr ((0 : Nat) + (1 : Nat)) (0 : Nat) (0 : Nat) Bool.true, Go.Sx.AV.ptr ((0 : Nat) + (1 : Nat) + (1 : Nat)) (0 : Nat) (0 : Nat) Bool.true, Go.Sx.AV.any, Go.Sx.AV.any, Go.Sx.AV.bool Bool.false, Go.Sx.AV.any, Go.Sx.AV.any, Go.Sx.AV.any, Go.Sx.AV.any, Go.Sx.AV.any, Go.Sx.AV.any, Go.Sx.AV.any, Go.Sx.AV.any, Go.Sx.AV.any, Go.Sx.AV.any, Go.Sx.AV.any, Go.Sx.AV.any, Go.Sx.AV.any, Go.Sx.AV.any, Go.Sx.AV.any, Go.Sx.AV.any, Go.Sx.AV.any, Go.Sx.AV.any, Go.Sx.AV.any, Go.Sx.AV.any, Go.Sx.AV.any, Go.Sx.AV.any, Go.Sx.AV.any, Go.Sx.AV.any, Go.Sx.AV.any, Go.Sx.AV.any, Go.Sx.AV.any, Go.Sx.AV.any, Go.Sx.AV.any, Go.Sx.AV.any, Go.Sx.AV.any, Go.Sx.AV.any, Go.Sx.AV.any, Go.Sx.AV.any, Go.Sx.AV.any, Go.Sx.AV.any, Go.Sx.AV.any, Go.Sx.AV.any, Go.Sx.AV.any, Go.Sx.AV.any, Go.Sx.AV.any, Go.Sx.AV.any, Go.Sx.AV.any, Go.Sx.AV.any, Go.Sx.AV.any, Go.Sx.AV.any, Go.Sx.AV.any, Go.Sx.AV.any, Go.Sx.AV.any, Go.Sx.AV.any, Go.Sx.AV.any, Go.Sx.AV.any, Go.Sx.AV.any, Go.Sx.AV.any, Go.Sx.AV.any, Go.Sx.AV.any, Go.Sx.AV.any, Go.Sx.AV.any, Go.Sx.AV.any, Go.Sx.AV.any, Go.Sx.AV.any, Go.Sx.AV.any, Go.Sx.AV.any, Go.Sx.AV.any, Go.Sx.AV.any, Go.Sx.AV.any, Go.Sx.AV.any, Go.Sx.AV.any, Go.Sx.AV.any, Go.Sx.AV.any, Go.Sx.AV.any, Go.Sx.AV.any, Go.Sx.AV.any, Go.Sx.AV.any, Go.Sx.AV.any, Go.Sx.AV.any, Go.Sx.AV.any, Go.Sx.AV.any, Go.Sx.AV.any, Go.Sx.AV.any, Go.Sx.AV.any, Go.Sx.AV.any, Go.Sx.AV.any, Go.Sx.AV.any, Go.Sx.AV.any, Go.Sx.AV.any, Go.Sx.AV.any, Go.Sx.AV.any, Go.Sx.AV.any, Go.Sx.AV.any, Go.Sx.AV.any, Go.Sx.AV.any, Go.Sx.AV.any, Go.Sx.AV.any, Go.Sx.AV.any, Go.Sx.AV.any, Go.Sx.AV.any, Go.Sx.AV.any, Go.Sx.AV.any, Go.Sx.AV.any, Go.Sx.AV.any, Go.Sx.AV.any, Go.Sx.AV.any, Go.Sx.AV.any, Go.Sx.AV.any, Go.Sx.AV.any, Go.Sx.AV.any, Go.Sx.AV.any, Go.Sx.AV.any, Go.Sx.AV.any, Go.Sx.AV.any] [Option.some (Go.Sx.Blk.mk Bool.true (28 : Nat) (6 : Nat) Bool.true [Go.Sx.AV.agg [Go.Sx.AV.w64 x.1, Go.Sx.AV.w64 x.2, Go.Sx.AV.w64 x.3, Go.Sx.AV.w64 x.4, Go.Sx.AV.int Go.IntKind.i64 x.5, Go.Sx.AV.int Go.IntKind.i64 x.6]]), Option.some (Go.Sx.Blk.mk Bool.true (28 : Nat) (6 : Nat) Bool.true [Go.Sx.AV.agg [Go.Sx.AV.w64 y.1, Go.Sx.AV.w64 y.2, Go.Sx.AV.w64 y.3, Go.Sx.AV.w64 y.4, Go.Sx.AV.int Go.IntKind.i64 y.5, Go.Sx.AV.int Go.IntKind.i64 y.6]]), Option.some (Go.Sx.Blk.mk Bool.true (30 : Nat) (3 : Nat) Bool.true [Go.Sx.AV.agg [Go.Sx.AV.w64 a, Go.Sx.AV.w64 b, Go.Sx.AV.int Go.IntKind.i64 k]])] = Go.Proofs.Ytbhbokhdkapkpaa.L1.riSt x y a b k j p ∧ p = Go.Sx.M.rtE x)) ∧ ∀ (p : Bool), p = Go.Sx.M.rtE x → (a &&& Go.Proofs.Ytbhbokhdkapkpaa.L1.mkW k == a &&& Go.Proofs.Ytbhbokhdkapkpaa.L1.mkW k && b &&& Go.Proofs.Ytbhbokhdkapkpaa.L1.mkW (k - (64 : Int)) == b &&& Go.Proofs.Ytbhbokhdkapkpaa.L1.mkW (k - (64 : Int))) = Bool.true ∧ (Go.Proofs.Ytbhbokhdkapkpaa.L1.mkW k == Go.Proofs.Ytbhbokhdkapkpaa.L1.mkW (Go.Proofs.Ytbhbokhdkapkpaa.L1.clamp k) && Go.Proofs.Ytbhbokhdkapkpaa.L1.mkW (k - (64 : Int)) == Go.Proofs.Ytbhbokhdkapkpaa.L1.mkW (Go.Proofs.Ytbhbokhdkapkpaa.L1.clamp k - (64 : Int))) = Bool.true ∧ (Go.Proofs.Ytbhbokhdkapkpaa.L1.clamp k == Go.Proofs.Ytbhbokhdkapkpaa.L1.clamp k) = Bool.true ∧ (Go.Sx.M.rtE (Go.Sx.M.En.mk x.1 x.2 x.3 x.4 x.5 x.6) == p) = Bool.true ∧ (Go.Sx.M.abE (Go.Sx.M.En.mk x.1 x.2 x.3 x.4 x.5 x.6) (Go.Sx.M.En.mk y.1 y.2 y.3 y.4 y.5 y.6) == Go.Sx.M.abE (Go.Sx.M.En.mk x.1 x.2 x.3 x.4 x.5 x.6) (Go.Sx.M.En.mk y.1 y.2 y.3 y.4 y.5 y.6)) = Bool.true ∧ (j == j) = Bool.true ∧ (Go.Sx.andAll [Go.Sx.andAll [Go.Sx.M.En.v x == Go.Sx.M.En.v y, Go.Sx.M.En.w x == Go.Sx.M.En.w y], Go.Sx.andAll [Go.Sx.M.En.m x == Go.Sx.M.En.m y, Go.Sx.M.En.n x == Go.Sx.M.En.n y]] = Bool.true → (Go.Sx.M.alE (Go.Sx.M.En.mk x.1 x.2 x.3 x.4 x.5 (0 : Int)) (Go.Sx.M.En.mk y.1 y.2 y.3 y.4 y.5 (0 : Int)) == (x.5 == y.5)) = Bool.true ∧ True ∧ Bool.true = Bool.true) ∧ (Go.Sx.andAll [Go.Sx.andAll [Go.Sx.M.En.v x == Go.Sx.M.En.v y, Go.Sx.M.En.w x == Go.Sx.M.En.w y], Go.Sx.andAll [Go.Sx.M.En.m x == Go.Sx.M.En.m y, Go.Sx.M.En.n x == Go.Sx.M.En.n y]] = Bool.false → (Go.Sx.M.alE (Go.Sx.M.En.mk x.1 x.2 x.3 x.4 x.5 (0 : Int)) (Go.Sx.M.En.mk y.1 y.2 y.3 y.4 y.5 (0 : Int)) == Bool.false) = Bool.true ∧ True ∧ Bool.true = Bool.true)) := by kernel_rfl

theorem opW0 (v m : BitVec 64) : opW 0 v m = v &&& m := by unfold opW; rw [if_neg (by decide), if_neg (by decide)]

theorem right5_law (x y : En) (a b : BitVec 64) (k j : Int) : ∃ hs, run right5Cs Try.prog 3 [enE x, enE y, .agg [.w64 a, .w64 b, .int .i64 k], .int .i64 j] [] hs isTrue := by
  refine ⟨(riH x y a b k j), ?_⟩
  rw [right5_run]
  simp only [opW0]
  have er : rtE x = (andAll [x.v &&& x.m == x.v, x.w &&& x.n == x.w] && (decide (x.len ≥ 0) && (decide (x.len ≤ 128) && (decide (x.act ≥ 1) && decide (x.act ≤ 255))))) := rfl
  refine ⟨⟨fun h => ⟨fun h1 => ⟨fun h2 => ⟨fun h3 => ⟨_, rfl, ?_⟩, fun h3 => ⟨_, rfl, ?_⟩⟩, fun h2 => ⟨_, rfl, ?_⟩⟩, fun h1 => ⟨_, rfl, ?_⟩⟩, fun h => ⟨_, rfl, ?_⟩⟩, ?_⟩
  · rw [er, h, h1, h2, h3]; rfl
  · rw [er, h, h1, h2, h3]; rfl
  · rw [er, h, h1, h2]; rfl
  · rw [er, h, h1]; rfl
  · rw [er, h]; rfl
  · rintro p rfl
    have ea : ∀ x y : En, alE ⟨x.1, x.2, x.3, x.4, x.5, 0⟩ ⟨y.1, y.2, y.3, y.4, y.5, 0⟩ = (andAll [andAll [x.v == y.v, x.w == y.w], andAll [x.m == y.m, x.n == y.n]] && (x.5 == y.5)) := fun _ _ => rfl
    refine ⟨by simp, by rw [(mkW_clamp k).1, (mkW_clamp k).2]; simp, by simp, by simp, by simp, by simp, fun h => ⟨?_, trivial, trivial⟩, fun h => ⟨?_, trivial, trivial⟩⟩
    · rw [ea, h]; simp
    · rw [ea, h]; rfl

end Go.Proofs.Ytbhbokhdkapkpaa.L1
