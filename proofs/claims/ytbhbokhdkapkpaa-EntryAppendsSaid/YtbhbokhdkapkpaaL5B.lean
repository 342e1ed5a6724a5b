/-
  Layer 5: contracts of the document's Tell, Ordered, Compare; of the law's One and Of.
-/
import Derived.Test.YtbhbokhdkapkpaaL5A
import Derived.Test.YtbhbokhdkapkpaaM12
namespace Go.Proofs.Ytbhbokhdkapkpaa.L1
open Go.Sx Go.Sx.M

def roSt (l : List En) (p : Nat) : St := ⟨[.vsl 0 0 (l.map enE).length, .any, .any, .int .i64 p, .any, .any, .any, .any, .any, .any, .any, .any, .any, .any, .any, .any, .any, .any, .any, .any, .any, .any, .any, .any, .any, .any, .any, .any], [some ⟨false, 43, 6, true, l.map enE⟩]⟩
def roSt2 (l : List En) (p k : Nat) : St := ⟨[.vsl 0 0 (l.map enE).length, .any, .any, .int .i64 p, .int .i64 k, .any, .any, .any, .any, .any, .any, .any, .any, .any, .any, .any, .any, .any, .any, .any, .any, .any, .any, .any, .any, .any, .any, .any], [some ⟨false, 43, 6, true, l.map enE⟩]⟩
def roM0 : Modes := ⟨[1, 0, 0, 2, 0, 0, 0, 0, 0, 0, 0, 0, 0, 0, 0, 0, 0, 0, 0, 0, 0, 0, 0, 0, 0, 0, 0, 0], [], [], [], []⟩
def roM : Modes := ⟨[1, 0, 0, 1, 0, 0, 0, 0, 0, 0, 0, 0, 0, 0, 0, 0, 0, 0, 0, 0, 0, 0, 0, 0, 0, 0, 0, 0], [], [], [], []⟩
def roM' : Modes := ⟨[0, 0, 1, 0, 0, 0, 0, 0, 0, 0, 0, 0, 0, 0, 0, 0, 0, 0, 0, 0, 0, 0, 0, 0, 0, 0, 0, 0], [], [], [], []⟩
def roN0 : Modes := ⟨[1, 0, 0, 1, 2, 0, 0, 0, 0, 0, 0, 0, 0, 0, 0, 0, 0, 0, 0, 0, 0, 0, 0, 0, 0, 0, 0, 0], [], [], [], []⟩
def roN : Modes := ⟨[1, 0, 0, 1, 1, 0, 0, 0, 0, 0, 0, 0, 0, 0, 0, 0, 0, 0, 0, 0, 0, 0, 0, 0, 0, 0, 0, 0], [], [], [], []⟩
def roN' : Modes := ⟨[1, 0, 1, 1, 0, 0, 0, 0, 0, 0, 0, 0, 0, 0, 0, 0, 0, 0, 0, 0, 0, 0, 0, 0, 0, 0, 0, 0], [], [], [], []⟩
def roI (l : List En) (p : Nat) : Prop := p ≤ l.length ∧ ∀ i, i < p → ∀ k, k < l.length → i < k → abE (at' l k) (at' l i) = false
def roI2 (l : List En) (p k : Nat) : Prop := p < k ∧ k ≤ l.length ∧ ∀ j, p < j → j < k → abE (at' l j) (at' l p) = false
def roH (l : List En) : List Hint := [.linv _ 0 (roSt l) (roI l) (fun p => l.length + 1 - p) roM0 roM roM' (fun _ => []) fun p =>
  [.fork [.nw, .linv _ (p + 1) (roSt2 l p) (roI2 l p) (fun k => l.length + 1 - k) roN0 roN roN' (fun _ => [.nw]) fun k =>
    [.fork [.dy, .cell (enE (at' l k)), .dy, .cell (enE (at' l p)), .fork [] [.nw]] []]] []]]

def ofSt (F : List En → List AV) (l : List En) (p : Nat) : St :=
  ⟨[.any, .any, .any, .vsl 1 0 p, .any, .any, .vsl 0 0 (l.map enE).length, .int .i64 (l.map enE).length, .int .i64 p, .any, .any, .any, .any, .any, .any, .any, .any, .any, .any], [some ⟨false, 28, 6, true, l.map enE⟩, some ⟨true, 43, 6, true, F (l.take p)⟩]⟩
def ofM0 : Modes := ⟨[0, 0, 0, 1, 0, 0, 1, 1, 2, 0, 0, 0, 0, 0, 0, 0, 0, 0, 0], [], [], [], [(3, 43, 6)]⟩
def ofM : Modes := ⟨[0, 0, 0, 1, 0, 0, 1, 1, 1, 0, 0, 0, 0, 0, 0, 0, 0, 0, 0], [], [], [], []⟩
def ofH (F : List En → List AV) (l : List En) : List Hint := [.linv _ 0 (ofSt F l) (fun p => p ≤ l.length) (fun p => l.length + 1 - p) ofM0 ofM ofM (fun _ => []) fun p =>
  [.fork [.dy, .cell (enE (at' l p)), .rows (F (l.take (p + 1))), .nw] []]]

def rtellF : List Arg → (Res → Prop) → Prop
  | [.row r_l, .v (.agg [.w64 a, .w64 b])], R => r_l = (deE r_l).map enE ∧ (deE r_l).length ≤ 9223372036854775807 ∧ R (.v (.int .i64 (tlI (deE r_l) a b)))
  | _, _ => False

noncomputable def rtellCs : List (FuncId × Sx.Spec) := [(25, genSpec [pRefE, none] rbestF)]

theorem rtell_run (l : List En) (a b : BitVec 64) (r : AV) : run rtellCs Try.prog 27 [.vsl 0 0 (l.map enE).length, .agg [.w64 a, .w64 b]] [some ⟨false, (pRefE.getD (0, 0)).1, (pRefE.getD (0, 0)).2, true, (l.map enE)⟩] [.fork [] [.dy, .cell (.int .i64 (at' l (bsI l a b).toNat).act)]] (yields (.v r)) =
    ((0 : Nat) + List.length (List.map Go.Proofs.Ytbhbokhdkapkpaa.L1.enE l) ≤ List.length (List.map Go.Proofs.Ytbhbokhdkapkpaa.L1.enE l) ∧ List.take (List.length (List.map Go.Proofs.Ytbhbokhdkapkpaa.L1.enE l)) (List.drop (0 : Nat) (List.map Go.Proofs.Ytbhbokhdkapkpaa.L1.enE l)) = List.map Go.Proofs.Ytbhbokhdkapkpaa.L1.enE (Go.Proofs.Ytbhbokhdkapkpaa.L1.deE (List.take (List.length (List.map Go.Proofs.Ytbhbokhdkapkpaa.L1.enE l)) (List.drop (0 : Nat) (List.map Go.Proofs.Ytbhbokhdkapkpaa.L1.enE l)))) ∧ List.length (Go.Proofs.Ytbhbokhdkapkpaa.L1.deE (List.take (List.length (List.map Go.Proofs.Ytbhbokhdkapkpaa.L1.enE l)) (List.drop (0 : Nat) (List.map Go.Proofs.Ytbhbokhdkapkpaa.L1.enE l)))) ≤ (9223372036854775807 : Nat) ∧ (Decidable.decide (Go.Sx.M.bsI (Go.Proofs.Ytbhbokhdkapkpaa.L1.deE (List.take (List.length (List.map Go.Proofs.Ytbhbokhdkapkpaa.L1.enE l)) (List.drop (0 : Nat) (Go.Sx.Blk.elems (Go.Sx.Blk.mk Bool.false (Prod.fst (Option.getD Go.Proofs.Ytbhbokhdkapkpaa.L1.pRefE ((0 : Go.TypeId), (0 : Nat)))) (Prod.snd (Option.getD Go.Proofs.Ytbhbokhdkapkpaa.L1.pRefE ((0 : Go.TypeId), (0 : Nat)))) Bool.true (List.map Go.Proofs.Ytbhbokhdkapkpaa.L1.enE l)))))) a b < (0 : Int)) = Bool.true → Go.Sx.AV.int Go.IntKind.i64 (0 : Int) = r) ∧ (Decidable.decide (Go.Sx.M.bsI (Go.Proofs.Ytbhbokhdkapkpaa.L1.deE (List.take (List.length (List.map Go.Proofs.Ytbhbokhdkapkpaa.L1.enE l)) (List.drop (0 : Nat) (Go.Sx.Blk.elems (Go.Sx.Blk.mk Bool.false (Prod.fst (Option.getD Go.Proofs.Ytbhbokhdkapkpaa.L1.pRefE ((0 : Go.TypeId), (0 : Nat)))) (Prod.snd (Option.getD Go.Proofs.Ytbhbokhdkapkpaa.L1.pRefE ((0 : Go.TypeId), (0 : Nat)))) Bool.true (List.map Go.Proofs.Ytbhbokhdkapkpaa.L1.enE l)))))) a b < (0 : Int)) = Bool.false → ((0 : Int) ≤ Go.Sx.M.bsI (Go.Proofs.Ytbhbokhdkapkpaa.L1.deE (List.take (List.length (List.map Go.Proofs.Ytbhbokhdkapkpaa.L1.enE l)) (List.drop (0 : Nat) (List.map Go.Proofs.Ytbhbokhdkapkpaa.L1.enE l)))) a b ∧ Go.Sx.M.bsI (Go.Proofs.Ytbhbokhdkapkpaa.L1.deE (List.take (List.length (List.map Go.Proofs.Ytbhbokhdkapkpaa.L1.enE l)) (List.drop (0 : Nat) (List.map Go.Proofs.Ytbhbokhdkapkpaa.L1.enE l)))) a b < (↑(List.length (List.map Go.Proofs.Ytbhbokhdkapkpaa.L1.enE l)) : Int)) ∧ Go.Sx.Blk.read Go.Proofs.Try.prog (Go.Sx.Blk.mk Bool.false (nat_lit 43) (6 : Nat) Bool.true (List.map Go.Proofs.Ytbhbokhdkapkpaa.L1.enE l)) (3 : Nat) ((0 : Nat) + Int.toNat (Go.Sx.M.bsI (Go.Proofs.Ytbhbokhdkapkpaa.L1.deE (List.take (List.length (List.map Go.Proofs.Ytbhbokhdkapkpaa.L1.enE l)) (List.drop (0 : Nat) (List.map Go.Proofs.Ytbhbokhdkapkpaa.L1.enE l)))) a b)) ((0 : Nat) + (5 : Nat)) = Option.some (Go.Sx.AV.int Go.IntKind.i64 (Go.Sx.M.at' l (Int.toNat (Go.Sx.M.bsI l a b))).6) ∧ Go.Sx.AV.int Go.IntKind.i64 (Go.Sx.M.at' l (Int.toNat (Go.Sx.M.bsI l a b))).6 = r)) := by kernel_rfl

theorem rtellCs_ok : ∀ e ∈ rtellCs, SpecOK Try.prog e.1 e.2 := by
  intro e he
  simp only [rtellCs, List.mem_cons, List.not_mem_nil, or_false] at he
  rcases he with rfl
  · exact rbest_ok

theorem rtell_ok : SpecOK Try.prog 27 (genSpec [pRefE, none] rtellF) := by
  refine genSpec_ok (run_ok (l := rtellCs) rtellCs_ok mixed noNG) fun l R hF => ?_
  unfold rtellF at hF
  split at hF
  · rename_i r_l a b
    obtain ⟨hr_l, hl, hF⟩ := hF
    generalize deE r_l = l at hr_l hl hF
    subst hr_l
    refine ⟨_, hF, rfl, [.fork [] [.dy, .cell (.int .i64 (at' l (bsI l a b).toNat).act)]], ?_⟩
    show run rtellCs Try.prog _ [.vsl 0 0 (l.map enE).length, .agg [.w64 a, .w64 b]] [some ⟨false, (pRefE.getD (0, 0)).1, (pRefE.getD (0, 0)).2, true, (l.map enE)⟩] _ _
    rw [rtell_run]
    rw [whole_row, deE_map]
    refine ⟨by simp, rfl, hl, fun h => ?_, fun h => ?_⟩
    · unfold tlI
      rw [if_pos (by simpa using h)]
    · simp only [decide_eq_false_iff_not] at h
      have B : 0 ≤ bsI l a b ∧ bsI l a b < ((l.map enE).length : Int) := by
        rcases bsI_spec l a b with ⟨h1, _⟩ | ⟨i, h1, _, h2, _⟩
        · omega
        · rw [h1, List.length_map]; omega
      refine ⟨B, read_rows B.1 B.2 (ref_act _), ?_⟩
      unfold tlI
      rw [if_neg h]
  · exact hF.elim


def rorderedF : List Arg → (Res → Prop) → Prop
  | [.row r_l], R => r_l = (deE r_l).map enE ∧ (deE r_l).length ≤ 9223372036854775807 ∧ R (.v (.bool (orE (deE r_l))))
  | _, _ => False

noncomputable def rorderedCs : List (FuncId × Sx.Spec) := [(17, genSpec [none, none] raboveF)]

theorem rordered_run (l : List En) (r : AV) : run rorderedCs Try.prog 28 [.vsl 0 0 (l.map enE).length] [some ⟨false, (pRefE.getD (0, 0)).1, (pRefE.getD (0, 0)).2, true, (l.map enE)⟩] (roH l) (yields (.v r)) =
    ((Go.Sx.St.mk [Go.Sx.AV.vsl (0 : Nat) (0 : Nat) (List.length (List.map Go.Proofs.Ytbhbokhdkapkpaa.L1.enE l)), Go.Sx.AV.any, Go.Sx.AV.any, Go.Sx.AV.int Go.IntKind.i64 (0 : Int), Go.Sx.AV.any, Go.Sx.AV.any, Go.Sx.AV.any, Go.Sx.AV.any, Go.Sx.AV.any, Go.Sx.AV.any, Go.Sx.AV.any, Go.Sx.AV.any, Go.Sx.AV.any, Go.Sx.AV.any, Go.Sx.AV.any, Go.Sx.AV.any, Go.Sx.AV.any, Go.Sx.AV.any, Go.Sx.AV.any, Go.Sx.AV.any, Go.Sx.AV.any, Go.Sx.AV.any, Go.Sx.AV.any, Go.Sx.AV.any, Go.Sx.AV.any, Go.Sx.AV.any, Go.Sx.AV.any, Go.Sx.AV.any] [Option.some (Go.Sx.Blk.mk Bool.false (nat_lit 43) (6 : Nat) Bool.true (List.map Go.Proofs.Ytbhbokhdkapkpaa.L1.enE l))] = Go.Proofs.Ytbhbokhdkapkpaa.L1.roSt l (0 : Nat) ∧ Go.Proofs.Ytbhbokhdkapkpaa.L1.roI l (0 : Nat)) ∧ ∀ (p : Nat), Go.Proofs.Ytbhbokhdkapkpaa.L1.roI l p → (Decidable.decide ((↑p : Int) < (↑(List.length (List.map Go.Proofs.Ytbhbokhdkapkpaa.L1.enE l)) : Int)) = Bool.true → Go.Sx.inRange Go.IntKind.i64 ((↑p : Int) + (1 : Int)) ∧ (Go.Sx.St.mk [Go.Sx.AV.vsl (0 : Nat) (0 : Nat) (List.length (List.map Go.Proofs.Ytbhbokhdkapkpaa.L1.enE l)), Go.Sx.AV.any, Go.Sx.AV.any, Go.Sx.AV.int Go.IntKind.i64 (↑p : Int), Go.Sx.AV.int Go.IntKind.i64 ((↑p : Int) + (1 : Int)), Go.Sx.AV.any, Go.Sx.AV.any, Go.Sx.AV.any, Go.Sx.AV.any, Go.Sx.AV.any, Go.Sx.AV.any, Go.Sx.AV.any, Go.Sx.AV.any, Go.Sx.AV.any, Go.Sx.AV.any, Go.Sx.AV.any, Go.Sx.AV.any, Go.Sx.AV.any, Go.Sx.AV.any, Go.Sx.AV.any, Go.Sx.AV.any, Go.Sx.AV.any, Go.Sx.AV.any, Go.Sx.AV.any, Go.Sx.AV.any, Go.Sx.AV.any, Go.Sx.AV.any, Go.Sx.AV.any] [Option.some (Go.Sx.Blk.mk Bool.false (43 : Go.TypeId) (6 : Nat) Bool.true (List.map Go.Proofs.Ytbhbokhdkapkpaa.L1.enE l))] = Go.Proofs.Ytbhbokhdkapkpaa.L1.roSt2 l p (p + (1 : Nat)) ∧ Go.Proofs.Ytbhbokhdkapkpaa.L1.roI2 l p (p + (1 : Nat))) ∧ ∀ (p_1 : Nat), Go.Proofs.Ytbhbokhdkapkpaa.L1.roI2 l p p_1 → (Decidable.decide ((↑p_1 : Int) < (↑(List.length (List.map Go.Proofs.Ytbhbokhdkapkpaa.L1.enE l)) : Int)) = Bool.true → ((0 : Int) ≤ (↑p_1 : Int) ∧ (↑p_1 : Int) < (↑(List.length (List.map Go.Proofs.Ytbhbokhdkapkpaa.L1.enE l)) : Int)) ∧ Go.Sx.Blk.read Go.Proofs.Try.prog (Go.Sx.Blk.mk Bool.false (43 : Go.TypeId) (6 : Nat) Bool.true (List.map Go.Proofs.Ytbhbokhdkapkpaa.L1.enE l)) (43 : Nat) ((0 : Nat) + Int.toNat (↑p_1 : Int)) (0 : Nat) = Option.some (Go.Sx.AV.agg [Go.Sx.AV.w64 (Go.Sx.M.at' l p_1).1, Go.Sx.AV.w64 (Go.Sx.M.at' l p_1).2, Go.Sx.AV.w64 (Go.Sx.M.at' l p_1).3, Go.Sx.AV.w64 (Go.Sx.M.at' l p_1).4, Go.Sx.AV.int Go.IntKind.i64 (Go.Sx.M.at' l p_1).5, Go.Sx.AV.int Go.IntKind.i64 (Go.Sx.M.at' l p_1).6]) ∧ ((0 : Int) ≤ (↑p : Int) ∧ (↑p : Int) < (↑(List.length (List.map Go.Proofs.Ytbhbokhdkapkpaa.L1.enE l)) : Int)) ∧ Go.Sx.Blk.read Go.Proofs.Try.prog (Go.Sx.Blk.mk Bool.false (43 : Go.TypeId) (6 : Nat) Bool.true (List.map Go.Proofs.Ytbhbokhdkapkpaa.L1.enE l)) (43 : Nat) ((0 : Nat) + Int.toNat (↑p : Int)) (0 : Nat) = Option.some (Go.Sx.AV.agg [Go.Sx.AV.w64 (Go.Sx.M.at' l p).1, Go.Sx.AV.w64 (Go.Sx.M.at' l p).2, Go.Sx.AV.w64 (Go.Sx.M.at' l p).3, Go.Sx.AV.w64 (Go.Sx.M.at' l p).4, Go.Sx.AV.int Go.IntKind.i64 (Go.Sx.M.at' l p).5, Go.Sx.AV.int Go.IntKind.i64 (Go.Sx.M.at' l p).6]) ∧ (Go.Sx.M.abE (Go.Sx.M.En.mk (Go.Sx.M.En.v (Go.Sx.M.at' l p_1)) (Go.Sx.M.En.w (Go.Sx.M.at' l p_1)) (Go.Sx.M.En.m (Go.Sx.M.at' l p_1)) (Go.Sx.M.En.n (Go.Sx.M.at' l p_1)) (Go.Sx.M.En.len (Go.Sx.M.at' l p_1)) (Go.Sx.M.En.act (Go.Sx.M.at' l p_1))) (Go.Sx.M.En.mk (Go.Sx.M.En.v (Go.Sx.M.at' l p)) (Go.Sx.M.En.w (Go.Sx.M.at' l p)) (Go.Sx.M.En.m (Go.Sx.M.at' l p)) (Go.Sx.M.En.n (Go.Sx.M.at' l p)) (Go.Sx.M.En.len (Go.Sx.M.at' l p)) (Go.Sx.M.En.act (Go.Sx.M.at' l p))) = Bool.true → Go.Sx.AV.bool Bool.false = r) ∧ (Go.Sx.M.abE (Go.Sx.M.En.mk (Go.Sx.M.En.v (Go.Sx.M.at' l p_1)) (Go.Sx.M.En.w (Go.Sx.M.at' l p_1)) (Go.Sx.M.En.m (Go.Sx.M.at' l p_1)) (Go.Sx.M.En.n (Go.Sx.M.at' l p_1)) (Go.Sx.M.En.len (Go.Sx.M.at' l p_1)) (Go.Sx.M.En.act (Go.Sx.M.at' l p_1))) (Go.Sx.M.En.mk (Go.Sx.M.En.v (Go.Sx.M.at' l p)) (Go.Sx.M.En.w (Go.Sx.M.at' l p)) (Go.Sx.M.En.m (Go.Sx.M.at' l p)) (Go.Sx.M.En.n (Go.Sx.M.at' l p)) (Go.Sx.M.En.len (Go.Sx.M.at' l p)) (Go.Sx.M.En.act (Go.Sx.M.at' l p))) = Bool.false → Go.Sx.inRange Go.IntKind.i64 ((↑p_1 : Int) + (1 : Int)) ∧ ∃ (p' : Nat), Go.Sx.St.mk [Go.Sx.AV.vsl (0 : Nat) (0 : Nat) (List.length (List.map Go.Proofs.Ytbhbokhdkapkpaa.L1.enE l)), Go.Sx.AV.any, Go.Sx.AV.any, Go.Sx.AV.int Go.IntKind.i64 (↑p : Int), Go.Sx.AV.int Go.IntKind.i64 ((↑p_1 : Int) + (1 : Int)), Go.Sx.AV.any, Go.Sx.AV.any, Go.Sx.AV.any, Go.Sx.AV.any, Go.Sx.AV.any, Go.Sx.AV.any, Go.Sx.AV.any, Go.Sx.AV.any, Go.Sx.AV.any, Go.Sx.AV.any, Go.Sx.AV.any, Go.Sx.AV.any, Go.Sx.AV.any, Go.Sx.AV.any, Go.Sx.AV.any, Go.Sx.AV.any, Go.Sx.AV.any, Go.Sx.AV.any, Go.Sx.AV.any, Go.Sx.AV.any, Go.Sx.AV.any, Go.Sx.AV.any, Go.Sx.AV.any] [Option.some (Go.Sx.Blk.mk Bool.false (43 : Go.TypeId) (6 : Nat) Bool.true (List.map Go.Proofs.Ytbhbokhdkapkpaa.L1.enE l))] = Go.Proofs.Ytbhbokhdkapkpaa.L1.roSt2 l p p' ∧ Go.Proofs.Ytbhbokhdkapkpaa.L1.roI2 l p p' ∧ List.length l + (1 : Nat) - p' < List.length l + (1 : Nat) - p_1)) ∧ (Decidable.decide ((↑p_1 : Int) < (↑(List.length (List.map Go.Proofs.Ytbhbokhdkapkpaa.L1.enE l)) : Int)) = Bool.false → Go.Sx.inRange Go.IntKind.i64 ((↑p : Int) + (1 : Int)) ∧ ∃ (p' : Nat), Go.Sx.St.mk [Go.Sx.AV.vsl (0 : Nat) (0 : Nat) (List.length (List.map Go.Proofs.Ytbhbokhdkapkpaa.L1.enE l)), Go.Sx.AV.any, Go.Sx.AV.any, Go.Sx.AV.int Go.IntKind.i64 ((↑p : Int) + (1 : Int)), Go.Sx.AV.any, Go.Sx.AV.any, Go.Sx.AV.any, Go.Sx.AV.any, Go.Sx.AV.any, Go.Sx.AV.any, Go.Sx.AV.any, Go.Sx.AV.any, Go.Sx.AV.any, Go.Sx.AV.any, Go.Sx.AV.any, Go.Sx.AV.any, Go.Sx.AV.any, Go.Sx.AV.any, Go.Sx.AV.any, Go.Sx.AV.any, Go.Sx.AV.any, Go.Sx.AV.any, Go.Sx.AV.any, Go.Sx.AV.any, Go.Sx.AV.any, Go.Sx.AV.any, Go.Sx.AV.any, Go.Sx.AV.any] [Option.some (Go.Sx.Blk.mk Bool.false (43 : Go.TypeId) (6 : Nat) Bool.true (List.map Go.Proofs.Ytbhbokhdkapkpaa.L1.enE l))] = Go.Proofs.Ytbhbokhdkapkpaa.L1.roSt l p' ∧ Go.Proofs.Ytbhbokhdkapkpaa.L1.roI l p' ∧ List.length l + (1 : Nat) - p' < List.length l + (1 : Nat) - p)) ∧ (Decidable.decide ((↑p : Int) < (↑(List.length (List.map Go.Proofs.Ytbhbokhdkapkpaa.L1.enE l)) : Int)) = Bool.false → Go.Sx.AV.bool Bool.true = r)) := by kernel_rfl

theorem rorderedCs_ok : ∀ e ∈ rorderedCs, SpecOK Try.prog e.1 e.2 := by
  intro e he
  simp only [rorderedCs, List.mem_cons, List.not_mem_nil, or_false] at he
  rcases he with rfl
  · exact rabove_ok

theorem rordered_ok : SpecOK Try.prog 28 (genSpec [pRefE] rorderedF) := by
  refine genSpec_ok (run_ok (l := rorderedCs) rorderedCs_ok mixed noNG) fun l R hF => ?_
  unfold rorderedF at hF
  split at hF
  · rename_i r_l
    obtain ⟨hr_l, hl, hF⟩ := hF
    generalize deE r_l = l at hr_l hl hF
    subst hr_l
    refine ⟨_, hF, rfl, (roH l), ?_⟩
    show run rorderedCs Try.prog _ [.vsl 0 0 (l.map enE).length] [some ⟨false, (pRefE.getD (0, 0)).1, (pRefE.getD (0, 0)).2, true, (l.map enE)⟩] _ _
    rw [rordered_run]
    refine ⟨⟨rfl, Nat.zero_le _, fun i hi => by omega⟩, ?_⟩
    rintro p ⟨h1, h2⟩
    refine ⟨fun hlt => ?_, fun hge => ?_⟩
    · have hp : p < l.length := by simp only [decide_eq_true_eq, List.length_map] at hlt; omega
      have Bp : 0 ≤ (p : Int) ∧ (p : Int) < ((l.map enE).length : Int) := by rw [List.length_map]; omega
      refine ⟨inR (by omega) (by omega), ⟨rfl, by omega, by omega, fun j h3 h4 => by omega⟩, ?_⟩
      rintro k ⟨h3, h4, h5⟩
      refine ⟨fun hlt => ?_, fun hge => ?_⟩
      · have hk : k < l.length := by simp only [decide_eq_true_eq, List.length_map] at hlt; omega
        have Bk : 0 ≤ (k : Int) ∧ (k : Int) < ((l.map enE).length : Int) := by rw [List.length_map]; omega
        refine ⟨Bk, read_rows Bk.1 Bk.2 (ref_whole _), Bp, read_rows Bp.1 Bp.2 (ref_whole _), fun ha => ?_, fun ha => ⟨inR (by omega) (by omega), k + 1, rfl, ⟨by omega, by omega, fun j h6 h7 => ?_⟩, by omega⟩⟩
        · rw [notT orE_iff fun h => by
            have := h p hp k hk h3
            rw [show abE (at' l k) (at' l p) = true from ha] at this; cases this]
        · rcases Nat.lt_or_eq_of_le (Nat.le_of_lt_succ h7) with h | rfl
          · exact h5 j h6 h
          · exact ha
      · have hk : k = l.length := by simp only [decide_eq_false_iff_not, List.length_map] at hge; omega
        subst hk
        refine ⟨inR (by omega) (by omega), p + 1, rfl, ⟨by omega, fun i hi k hk hik => ?_⟩, by omega⟩
        rcases Nat.lt_or_eq_of_le (Nat.le_of_lt_succ hi) with h | rfl
        · exact h2 i h k hk hik
        · exact h5 k hik hk
    · have hp : p = l.length := by simp only [decide_eq_false_iff_not, List.length_map] at hge; omega
      subst hp
      rw [orE_iff.2 h2]
  · exact hF.elim


def rcompareF : List Arg → (Res → Prop) → Prop
  | [.v (.agg [.w64 v, .w64 w, .w64 m, .w64 n, .int .i64 k, .int .i64 j]), .v (.agg [.w64 c, .w64 d, .w64 p, .w64 q, .int .i64 s, .int .i64 t])], R => R (.v (.int .i64 (cpE ⟨v, w, m, n, k, j⟩ ⟨c, d, p, q, s, t⟩)))
  | _, _ => False

noncomputable def rcompareCs : List (FuncId × Sx.Spec) := [(54, genSpec [none, none] cmpF)]

theorem rcompare_run (v w m n : BitVec 64) (k j : Int) (c d p q : BitVec 64) (s t : Int) (r : AV) : run rcompareCs Try.prog 33 [.agg [.w64 v, .w64 w, .w64 m, .w64 n, .int .i64 k, .int .i64 j], .agg [.w64 c, .w64 d, .w64 p, .w64 q, .int .i64 s, .int .i64 t]] [] [.fork [.fork [] []] [.fork [.fork [.fork [] [.br true, .fork [] []]] [.br false]] [.br false, .br false]]] (yields (.v r)) =
    (((k != s) = Bool.true → (Decidable.decide (k > s) = Bool.true → Go.Sx.AV.int Go.IntKind.i64 (-1 : Int) = r) ∧ (Decidable.decide (k > s) = Bool.false → Go.Sx.AV.int Go.IntKind.i64 (1 : Int) = r)) ∧ ((k != s) = Bool.false → ((Go.Sx.M.cmpV (Go.Sx.M.V v w) (Go.Sx.M.V c d) == (0 : Int)) = Bool.true → ((Go.Sx.M.cmpV (Go.Sx.M.V m n) (Go.Sx.M.V p q) == (0 : Int)) = Bool.true → (Decidable.decide (j < t) = Bool.true → Go.Sx.AV.int Go.IntKind.i64 (-1 : Int) = r) ∧ (Decidable.decide (j < t) = Bool.false → (Go.Sx.M.cmpV (Go.Sx.M.V m n) (Go.Sx.M.V p q) == (0 : Int)) = Bool.true ∧ (Decidable.decide (j > t) = Bool.true → Go.Sx.AV.int Go.IntKind.i64 (1 : Int) = r) ∧ (Decidable.decide (j > t) = Bool.false → Go.Sx.AV.int Go.IntKind.i64 (Go.Sx.M.cmpV (Go.Sx.M.V m n) (Go.Sx.M.V p q)) = r))) ∧ ((Go.Sx.M.cmpV (Go.Sx.M.V m n) (Go.Sx.M.V p q) == (0 : Int)) = Bool.false → (Go.Sx.M.cmpV (Go.Sx.M.V m n) (Go.Sx.M.V p q) == (0 : Int)) = Bool.false ∧ Go.Sx.AV.int Go.IntKind.i64 (Go.Sx.M.cmpV (Go.Sx.M.V m n) (Go.Sx.M.V p q)) = r)) ∧ ((Go.Sx.M.cmpV (Go.Sx.M.V v w) (Go.Sx.M.V c d) == (0 : Int)) = Bool.false → (Go.Sx.M.cmpV (Go.Sx.M.V v w) (Go.Sx.M.V c d) == (0 : Int)) = Bool.false ∧ (Go.Sx.M.cmpV (Go.Sx.M.V v w) (Go.Sx.M.V c d) == (0 : Int)) = Bool.false ∧ Go.Sx.AV.int Go.IntKind.i64 (Go.Sx.M.cmpV (Go.Sx.M.V v w) (Go.Sx.M.V c d)) = r))) := by kernel_rfl

theorem rcompareCs_ok : ∀ e ∈ rcompareCs, SpecOK Try.prog e.1 e.2 := by
  intro e he
  simp only [rcompareCs, List.mem_cons, List.not_mem_nil, or_false] at he
  rcases he with rfl
  · exact cmp_ok

theorem rcompare_ok : SpecOK Try.prog 33 (genSpec [none, none] rcompareF) := by
  refine genSpec_ok (run_ok (l := rcompareCs) rcompareCs_ok mixed noNG) fun l R hF => ?_
  unfold rcompareF at hF
  split at hF
  · rename_i v w m n k j c d p q s t
    refine ⟨_, hF, rfl, [.fork [.fork [] []] [.fork [.fork [.fork [] [.br true, .fork [] []]] [.br false]] [.br false, .br false]]], ?_⟩
    show run rcompareCs Try.prog _ [.agg [.w64 v, .w64 w, .w64 m, .w64 n, .int .i64 k, .int .i64 j], .agg [.w64 c, .w64 d, .w64 p, .w64 q, .int .i64 s, .int .i64 t]] [] _ _
    rw [rcompare_run]
    have key : ∀ x : Int, cpE ⟨v, w, m, n, k, j⟩ ⟨c, d, p, q, s, t⟩ = x → AV.int .i64 x = .int .i64 (cpE ⟨v, w, m, n, k, j⟩ ⟨c, d, p, q, s, t⟩) := fun x h => by rw [h]
    have e0 : cpE ⟨v, w, m, n, k, j⟩ ⟨c, d, p, q, s, t⟩ = orZ (cmpZ s k) (orZ (cmpV (V v w) (V c d)) (orZ (cmpV (V m n) (V p q)) (cmpZ j t))) := rfl
    refine ⟨fun h => ⟨fun h1 => key _ ?_, fun h1 => key _ ?_⟩, fun h => ⟨fun h1 => ⟨fun h2 => ⟨fun h3 => key _ ?_, fun h3 => ⟨h2, fun h4 => key _ ?_, fun h4 => key _ ?_⟩⟩, fun h2 => ⟨h2, key _ ?_⟩⟩, fun h1 => ⟨h1, h1, key _ ?_⟩⟩⟩
    all_goals
      rw [e0]
      simp only [bne_iff_ne, ne_eq, bne_eq_false_iff_eq, beq_iff_eq, beq_eq_false_iff_ne, decide_eq_true_eq, decide_eq_false_iff_not] at *
      unfold orZ cmpZ
    · rw [if_neg (by rw [if_pos (by omega)]; omega), if_pos (by omega)]
    · rw [if_neg (by rw [if_neg (by omega), if_pos (by omega)]; omega), if_neg (by omega), if_pos (by omega)]
    · rw [if_pos (by rw [if_neg (by omega), if_neg (by omega)]), if_pos h1, if_pos h2, if_pos h3]
    · rw [if_pos (by rw [if_neg (by omega), if_neg (by omega)]), if_pos h1, if_pos h2, if_neg h3, if_pos (by omega)]
    · rw [if_pos (by rw [if_neg (by omega), if_neg (by omega)]), if_pos h1, if_pos h2, if_neg h3, if_neg (by omega), h2]
    · rw [if_pos (by rw [if_neg (by omega), if_neg (by omega)]), if_pos h1, if_neg h2]
    · rw [if_pos (by rw [if_neg (by omega), if_neg (by omega)]), if_neg h1]
  · exact hF.elim


def one5F : List Arg → (Res → Prop) → Prop
  | [.v (.agg [.w64 v, .w64 w, .w64 m, .w64 n, .int .i64 k, .int .i64 j])], R => R (.v (.agg [.w64 v, .w64 w, .w64 m, .w64 n, .int .i64 k, .int .i64 j]))
  | _, _ => False

theorem one5_run (v w m n : BitVec 64) (k j : Int) (r : AV) : run [] Try.prog 18 [.agg [.w64 v, .w64 w, .w64 m, .w64 n, .int .i64 k, .int .i64 j]] [] [] (yields (.v r)) =
    (Go.Sx.AV.agg [Go.Sx.AV.w64 v, Go.Sx.AV.w64 w, Go.Sx.AV.w64 m, Go.Sx.AV.w64 n, Go.Sx.AV.int Go.IntKind.i64 k, Go.Sx.AV.int Go.IntKind.i64 j] = r) := by kernel_rfl

theorem one5_ok : SpecOK Try.prog 18 (genSpec [none] one5F) := by
  refine genSpec_ok none_ok fun l R hF => ?_
  unfold one5F at hF
  split at hF
  · rename_i v w m n k j
    refine ⟨_, hF, rfl, [], ?_⟩
    show run [] Try.prog _ [.agg [.w64 v, .w64 w, .w64 m, .w64 n, .int .i64 k, .int .i64 j]] [] _ _
    rw [one5_run]
    all_goals rfl
  · exact hF.elim


theorem en_whole (x : En) : partOf Try.prog 28 (enE x).cells 0 = some (enE x) := by kernel_rfl

def pEn : Par := some (28, 6)

def of5F : List Arg → (Res → Prop) → Prop
  | [.row r_l], R => r_l = (deE r_l).map enE ∧ (deE r_l).length ≤ 1000000 ∧ R (.vrow 43 6 ((deE r_l).map enE))
  | _, _ => False

theorem of5_run (l : List En) (F : List En → List AV) (es : List AV) : run [] Try.prog 21 [.vsl 0 0 (l.map enE).length] [some ⟨false, (pEn.getD (0, 0)).1, (pEn.getD (0, 0)).2, true, (l.map enE)⟩] (ofH F l) (yields (.vrow 43 6 es)) =
    ((Go.Sx.St.mk [Go.Sx.AV.any, Go.Sx.AV.any, Go.Sx.AV.any, Go.Sx.AV.vsl (List.length [Option.some (Go.Sx.Blk.mk Bool.false (nat_lit 28) (6 : Nat) Bool.true (List.map Go.Proofs.Ytbhbokhdkapkpaa.L1.enE l))]) (0 : Nat) (0 : Nat), Go.Sx.AV.any, Go.Sx.AV.any, Go.Sx.AV.vsl (0 : Nat) (0 : Nat) (List.length (List.map Go.Proofs.Ytbhbokhdkapkpaa.L1.enE l)), Go.Sx.AV.int Go.IntKind.i64 (↑(List.length (List.map Go.Proofs.Ytbhbokhdkapkpaa.L1.enE l)) : Int), Go.Sx.AV.int Go.IntKind.i64 (0 : Int), Go.Sx.AV.any, Go.Sx.AV.any, Go.Sx.AV.any, Go.Sx.AV.any, Go.Sx.AV.any, Go.Sx.AV.any, Go.Sx.AV.any, Go.Sx.AV.any, Go.Sx.AV.any, Go.Sx.AV.any] ([Option.some (Go.Sx.Blk.mk Bool.false (nat_lit 28) (6 : Nat) Bool.true (List.map Go.Proofs.Ytbhbokhdkapkpaa.L1.enE l))] ++ [Option.some (Go.Sx.Blk.mk Bool.true (43 : Go.TypeId) (6 : Nat) Bool.true [])]) = Go.Proofs.Ytbhbokhdkapkpaa.L1.ofSt F l (0 : Nat) ∧ Nat.le (0 : Nat) (List.length l)) ∧ ∀ (p : Nat), p ≤ List.length l → (Decidable.decide ((↑p : Int) < (↑(List.length (List.map Go.Proofs.Ytbhbokhdkapkpaa.L1.enE l)) : Int)) = Bool.true → ((0 : Int) ≤ (↑p : Int) ∧ (↑p : Int) < (↑(List.length (List.map Go.Proofs.Ytbhbokhdkapkpaa.L1.enE l)) : Int)) ∧ Go.Sx.Blk.read Go.Proofs.Try.prog (Go.Sx.Blk.mk Bool.false (28 : Go.TypeId) (6 : Nat) Bool.true (List.map Go.Proofs.Ytbhbokhdkapkpaa.L1.enE l)) (28 : Nat) ((0 : Nat) + Int.toNat (↑p : Int)) (0 : Nat) = Option.some (Go.Sx.AV.agg [Go.Sx.AV.w64 (Go.Sx.M.at' l p).1, Go.Sx.AV.w64 (Go.Sx.M.at' l p).2, Go.Sx.AV.w64 (Go.Sx.M.at' l p).3, Go.Sx.AV.w64 (Go.Sx.M.at' l p).4, Go.Sx.AV.int Go.IntKind.i64 (Go.Sx.M.at' l p).5, Go.Sx.AV.int Go.IntKind.i64 (Go.Sx.M.at' l p).6]) ∧ ((p + (1 : Nat)) * (48 : Nat) ≤ (140737488355328 : Nat) ∧ p + (1 : Nat) ≤ (9223372036854775807 : Nat) ∧ (0 : Nat) + (1 : Nat) ≤ List.length [Go.Sx.AV.agg [Go.Sx.AV.w64 (Go.Sx.M.at' l p).1, Go.Sx.AV.w64 (Go.Sx.M.at' l p).2, Go.Sx.AV.w64 (Go.Sx.M.at' l p).3, Go.Sx.AV.w64 (Go.Sx.M.at' l p).4, Go.Sx.AV.int Go.IntKind.i64 (Go.Sx.M.at' l p).5, Go.Sx.AV.int Go.IntKind.i64 (Go.Sx.M.at' l p).6]] ∧ p ≤ List.length (F (List.take p l))) ∧ List.take p (F (List.take p l)) ++ [Go.Sx.AV.agg [Go.Sx.AV.w64 (Go.Sx.M.at' l p).1, Go.Sx.AV.w64 (Go.Sx.M.at' l p).2, Go.Sx.AV.w64 (Go.Sx.M.at' l p).3, Go.Sx.AV.w64 (Go.Sx.M.at' l p).4, Go.Sx.AV.int Go.IntKind.i64 (Go.Sx.M.at' l p).5, Go.Sx.AV.int Go.IntKind.i64 (Go.Sx.M.at' l p).6]] = F (List.take (p + (1 : Nat)) l) ∧ Go.Sx.inRange Go.IntKind.i64 ((↑p : Int) + (1 : Int)) ∧ ∃ (p' : Nat), Go.Sx.St.mk [Go.Sx.AV.any, Go.Sx.AV.any, Go.Sx.AV.any, Go.Sx.AV.vsl ((0 : Nat) + (1 : Nat)) (0 : Nat) (p + (1 : Nat)), Go.Sx.AV.any, Go.Sx.AV.any, Go.Sx.AV.vsl (0 : Nat) (0 : Nat) (List.length (List.map Go.Proofs.Ytbhbokhdkapkpaa.L1.enE l)), Go.Sx.AV.int Go.IntKind.i64 (↑(List.length (List.map Go.Proofs.Ytbhbokhdkapkpaa.L1.enE l)) : Int), Go.Sx.AV.int Go.IntKind.i64 ((↑p : Int) + (1 : Int)), Go.Sx.AV.any, Go.Sx.AV.any, Go.Sx.AV.any, Go.Sx.AV.any, Go.Sx.AV.any, Go.Sx.AV.any, Go.Sx.AV.any, Go.Sx.AV.any, Go.Sx.AV.any, Go.Sx.AV.any] [Option.some (Go.Sx.Blk.mk Bool.false (28 : Go.TypeId) (6 : Nat) Bool.true (List.map Go.Proofs.Ytbhbokhdkapkpaa.L1.enE l)), Option.some (Go.Sx.Blk.mk Bool.true (43 : Nat) (6 : Nat) Bool.true (F (List.take (p + (1 : Nat)) l)))] = Go.Proofs.Ytbhbokhdkapkpaa.L1.ofSt F l p' ∧ Nat.le p' (List.length l) ∧ List.length l + (1 : Nat) - p' < List.length l + (1 : Nat) - p) ∧ (Decidable.decide ((↑p : Int) < (↑(List.length (List.map Go.Proofs.Ytbhbokhdkapkpaa.L1.enE l)) : Int)) = Bool.false → p = List.length es ∧ Option.some (Go.Sx.Blk.mk Bool.true (43 : Go.TypeId) (6 : Nat) Bool.true (F (List.take p l))) = Option.some (Go.Sx.Blk.mk Bool.true (43 : Go.TypeId) (6 : Nat) Bool.true es))) := by kernel_rfl

theorem of5_ok : SpecOK Try.prog 21 (genSpec [pEn] of5F) := by
  refine genSpec_ok none_ok fun l R hF => ?_
  unfold of5F at hF
  split at hF
  · rename_i r_l
    obtain ⟨hr_l, hl, hF⟩ := hF
    generalize deE r_l = l at hr_l hl hF
    subst hr_l
    refine ⟨_, hF, trivial, (ofH (List.map enE) l), ?_⟩
    show run [] Try.prog _ [.vsl 0 0 (l.map enE).length] [some ⟨false, (pEn.getD (0, 0)).1, (pEn.getD (0, 0)).2, true, (l.map enE)⟩] _ _
    rw [of5_run]
    have lt : ∀ p, p ≤ l.length → ((l.take p).map enE).length = p := fun p hp => by rw [List.length_map, List.length_take]; omega
    refine ⟨⟨rfl, Nat.zero_le _⟩, ?_⟩
    intro p hp
    refine ⟨fun hlt => ?_, fun hge => ?_⟩
    · have hlt : p < l.length := by simp only [decide_eq_true_eq, List.length_map] at hlt; omega
      have B : 0 ≤ (p : Int) ∧ (p : Int) < ((l.map enE).length : Int) := by rw [List.length_map]; omega
      refine ⟨B, read_rows B.1 B.2 (en_whole _), ⟨by omega, by omega, by simp, by rw [lt p hp]; omega⟩, ?_, inR (by omega) (by omega), p + 1, rfl, (by omega : p + 1 ≤ l.length), by omega⟩
      rw [List.take_of_length_le (by rw [lt p hp]; omega), List.take_add_one, at_get hlt, List.map_append]
      rfl
    · have hp : p = l.length := by simp only [decide_eq_false_iff_not, List.length_map] at hge; omega
      subst hp
      rw [List.take_length, List.length_map]
      exact ⟨rfl, rfl⟩
  · exact hF.elim


end Go.Proofs.Ytbhbokhdkapkpaa.L1
