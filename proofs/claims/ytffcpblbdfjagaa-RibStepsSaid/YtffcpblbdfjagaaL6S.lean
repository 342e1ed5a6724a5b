/-
  Layer 6: contracts of the program's calls: Right, Table, the place of a prefix, Find, Drop, Put.
-/
import Derived.Test.YtffcpblbdfjagaaL6R
import Derived.Test.YtffcpblbdfjagaaSxR
import Derived.Test.YtffcpblbdfjagaaShelf
namespace Go.Proofs.Ytffcpblbdfjagaa.L1
open Go.Sx Go.Sx.M

noncomputable def grow6Spec : Sx.Spec := growSpec 29 4 32

theorem grow6_ok : SpecOK Try.prog 60 grow6Spec :=
  growSpec_ok Try.laysGrow_f60 rfl rfl (by kernel_rfl) noNG Try.func60 (by kernel_rfl)

def pfamF : List Arg → (Res → Prop) → Prop
  | [.v (.int .i64 w)], R => R (.v (.bool (decide (w = 32 ∨ w = 128))))
  | _, _ => False

def placeF : List Arg → (Res → Prop) → Prop
  | [.row r_l, .v (.agg [.w64 a, .w64 b, .int .i64 k])], R => r_l = (deR r_l).map roE ∧ tbR 128 (deR r_l) = true ∧ R (.v (.tuple [.int .i64 (plN (deR r_l) ⟨a, b, k⟩), .bool (fdR (deR r_l) ⟨a, b, k⟩).isSome]))
  | _, _ => False

/-- The program's Table: the state of its loop. -/
def gtSt (l : List Ro) (w : Int) (p : Nat) : St := ⟨[.int .i64 w, .vsl 0 0 (l.map roE).length, .any, .any, .any, .any, .any, .any, .any, .any, .any, .any, .any, .any, .any, .vsl 0 0 (l.map roE).length, .int .i64 (l.map roE).length, .int .i64 p, .any, .any, .any, .any, .any, .any, .any, .any, .any, .any, .any, .any, .any, .any, .any, .any, .any, .any, .any, .any, .any, .any, .any, .any, .any], [some ⟨false, 29, 4, true, l.map roE⟩]⟩
def gtM0 : Modes := ⟨[1, 1, 0, 0, 0, 0, 0, 0, 0, 0, 0, 0, 0, 0, 0, 1, 1, 2, 0, 0, 0, 0, 0, 0, 0, 0, 0, 0, 0, 0, 0, 0, 0, 0, 0, 0, 0, 0, 0, 0, 0, 0, 0], [], [], [], []⟩
def gtM : Modes := ⟨[1, 1, 0, 0, 0, 0, 0, 0, 0, 0, 0, 0, 0, 0, 0, 1, 1, 1, 0, 0, 0, 0, 0, 0, 0, 0, 0, 0, 0, 0, 0, 0, 0, 0, 0, 0, 0, 0, 0, 0, 0, 0, 0], [], [], [], []⟩
def gtM' : Modes := ⟨[0, 0, 0, 0, 2, 0, 0, 0, 0, 0, 0, 0, 0, 0, 0, 0, 0, 0, 0, 0, 0, 0, 0, 0, 0, 0, 0, 0, 0, 0, 0, 0, 0, 0, 0, 0, 0, 0, 0, 0, 0, 0, 0], [], [], [], []⟩
def gtH (l : List Ro) (w : Int) : List Hint := [.fork [] [.fork [] [.linv _ 0 (gtSt l w) (rtI l w) (fun p => l.length + 1 - p) gtM0 gtM gtM' (fun _ => []) fun p =>
  [.fork [.dy, .cell (roE (at' l p)), .fork [] [.fork [.nw, .dy, .cell (pfE (at' l (p - 1)).p), .fork [] [.nw]] [.nw]]] []]]]]

def plFn : AV := .func (.func 62) [] []

/-- The state of the search's loop. -/
def plSt (l : List Ro) (a b : BitVec 64) (k : Int) (p : Nat × Nat) : St :=
  ⟨[.vsl 0 0 (l.map roE).length, .any, plFn, .any, .ptr 2 0 0 true, .any, .any, .any, .int .i64 (l.map roE).length, .int .i64 p.1, .int .i64 p.2, .any, .any, .any, .any, .any, .any, .any, .any, .any, .any, .any, .any, .any, .any, .any, .any, .any, .any, .any, .any, .any, .any, .any, .any, .any, .any, .any, .any, .any, .any, .any, .any, .any, .any, .any, .any, .any, .any], [some ⟨false, 29, 4, true, l.map roE⟩, some ⟨true, 27, 3, true, [.agg [.w64 a, .w64 b, .int .i64 k]]⟩, some ⟨true, 27, 3, true, [.agg [.w64 a, .w64 b, .int .i64 k]]⟩]⟩
def plM0 : Modes := ⟨[1, 0, 1, 0, 1, 0, 0, 0, 1, 2, 2, 0, 0, 0, 0, 0, 0, 0, 0, 0, 0, 0, 0, 0, 0, 0, 0, 0, 0, 0, 0, 0, 0, 0, 0, 0, 0, 0, 0, 0, 0, 0, 0, 0, 0, 0, 0, 0, 0], [], [], [], []⟩
def plM : Modes := ⟨[1, 0, 1, 0, 1, 0, 0, 0, 1, 1, 1, 0, 0, 0, 0, 0, 0, 0, 0, 0, 0, 0, 0, 0, 0, 0, 0, 0, 0, 0, 0, 0, 0, 0, 0, 0, 0, 0, 0, 0, 0, 0, 0, 0, 0, 0, 0, 0, 0], [], [], [], []⟩
def plI (l : List Ro) (q : Pf) (p : Nat × Nat) : Prop := p.1 ≤ p.2 ∧ p.2 ≤ l.length ∧ (∀ t, t < p.1 → cpP (at' l t).p q < 0) ∧ ∀ t, p.2 ≤ t → t < l.length → ¬ cpP (at' l t).p q < 0
def plH (l : List Ro) (a b : BitVec 64) (k : Int) : List Hint := [.linv (Nat × Nat) (0, (l.map roE).length) (plSt l a b k) (plI l ⟨a, b, k⟩) (fun p => p.2 - p.1) plM0 plM plM (fun p => [.fork [.dy, .cell (roE (at' l p.1))] []]) fun p =>
  [.fork [.nw, .ix ((p.1 + p.2) / 2), .cell (roE (at' l ((p.1 + p.2) / 2))), .fork [.nw] []] []]]

noncomputable def gright6Cs : List (FuncId × Sx.Spec) := [(31, genSpec [none, none] rightF)]

theorem gright6_run (w : Int) (a b : BitVec 64) (k j : Int) (r : AV) : run gright6Cs Try.prog 12 [.int .i64 w, .agg [.w64 a, .w64 b, .int .i64 k, .int .i64 j]] [] [.fork [.fork [] []] []] (yields (.v r)) =
    ((Go.Proofs.Ytffcpblbdfjagaa.L1.rightB w a b k = Bool.true → (Decidable.decide ((1 : Int) ≤ j) = Bool.true → Go.Sx.AV.bool (Decidable.decide (j ≤ (255 : Int))) = r) ∧ (Decidable.decide ((1 : Int) ≤ j) = Bool.false → Go.Sx.AV.bool Bool.false = r)) ∧ (Go.Proofs.Ytffcpblbdfjagaa.L1.rightB w a b k = Bool.false → Go.Sx.AV.bool Bool.false = r)) := by kernel_rfl

theorem gright6Cs_ok : ∀ e ∈ gright6Cs, SpecOK Try.prog e.1 e.2 := by
  intro e he
  simp only [gright6Cs, List.mem_cons, List.not_mem_nil, or_false] at he
  rcases he with rfl
  · exact pright_ok

theorem gright6_ok : SpecOK Try.prog 12 (genSpec [none, none] rrrF) := by
  refine genSpec_ok (run_ok (l := gright6Cs) gright6Cs_ok mixed noNG) fun l R hF => ?_
  unfold rrrF at hF
  split at hF
  · rename_i w a b k j
    refine ⟨_, hF, rfl, [.fork [.fork [] []] []], ?_⟩
    show run gright6Cs Try.prog _ [.int .i64 w, .agg [.w64 a, .w64 b, .int .i64 k, .int .i64 j]] [] _ _
    rw [gright6_run]
    have e : riR w ⟨⟨a, b, k⟩, j⟩ = (rightB w a b k && (decide (j ≥ 1) && decide (j ≤ 255))) := rfl
    refine ⟨fun h => ⟨fun h1 => ?_, fun h1 => ?_⟩, fun h => ?_⟩
    · rw [e, h, show decide (j ≥ 1) = true from h1]; rfl
    · rw [e, h, show decide (j ≥ 1) = false from h1]; rfl
    · rw [e, h]; rfl
  · exact hF.elim


theorem pfam_run (w : Int) (r : AV) : run [] Try.prog 41 [.int .i64 w] [] [.fork [] []] (yields (.v r)) =
    (((w == (32 : Int)) = Bool.true → Go.Sx.AV.bool Bool.true = r) ∧ ((w == (32 : Int)) = Bool.false → Go.Sx.AV.bool (w == (128 : Int)) = r)) := by kernel_rfl

theorem pfam_ok : SpecOK Try.prog 41 (genSpec [none] pfamF) := by
  refine genSpec_ok none_ok fun l R hF => ?_
  unfold pfamF at hF
  split at hF
  · rename_i w
    refine ⟨_, hF, rfl, [.fork [] []], ?_⟩
    show run [] Try.prog _ [.int .i64 w] [] _ _
    rw [pfam_run]
    refine ⟨fun h => ?_, fun h => ?_⟩
    · have h : w = 32 := by simpa using h
      subst h; rfl
    · have h : w ≠ 32 := by simpa using h
      by_cases h2 : w = 128
      · subst h2; rfl
      · simp [h, h2]
  · exact hF.elim


noncomputable def gtable6Cs : List (FuncId × Sx.Spec) := [(12, genSpec [none, none] rrrF),
  (41, genSpec [none] pfamF),
  (42, genSpec [none, none] cmppF)]

theorem gtable6_run (w : Int) (l : List Ro) (r : AV) : run gtable6Cs Try.prog 15 [.int .i64 w, .vsl 0 0 (l.map roE).length] [some ⟨false, (pRo.getD (0, 0)).1, (pRo.getD (0, 0)).2, true, (l.map roE)⟩] (gtH l w) (yields (.v r)) =
    (((!Decidable.decide (w = (32 : Int) ∨ w = (128 : Int))) = Bool.true → Go.Sx.AV.bool Bool.false = r) ∧ ((!Decidable.decide (w = (32 : Int) ∨ w = (128 : Int))) = Bool.false → (Decidable.decide ((↑(List.length (List.map Go.Proofs.Ytffcpblbdfjagaa.L1.roE l)) : Int) > (256 : Int)) = Bool.true → Go.Sx.AV.bool Bool.false = r) ∧ (Decidable.decide ((↑(List.length (List.map Go.Proofs.Ytffcpblbdfjagaa.L1.roE l)) : Int) > (256 : Int)) = Bool.false → (Go.Sx.St.mk [Go.Sx.AV.int Go.IntKind.i64 w, Go.Sx.AV.vsl (0 : Nat) (0 : Nat) (List.length (List.map Go.Proofs.Ytffcpblbdfjagaa.L1.roE l)), Go.Sx.AV.any, Go.Sx.AV.any, Go.Sx.AV.any, Go.Sx.AV.any, Go.Sx.AV.any, Go.Sx.AV.any, Go.Sx.AV.any, Go.Sx.AV.any, Go.Sx.AV.any, Go.Sx.AV.any, Go.Sx.AV.any, Go.Sx.AV.any, Go.Sx.AV.any, Go.Sx.AV.vsl (0 : Nat) (0 : Nat) (List.length (List.map Go.Proofs.Ytffcpblbdfjagaa.L1.roE l)), Go.Sx.AV.int Go.IntKind.i64 (↑(List.length (List.map Go.Proofs.Ytffcpblbdfjagaa.L1.roE l)) : Int), Go.Sx.AV.int Go.IntKind.i64 (0 : Int), Go.Sx.AV.any, Go.Sx.AV.any, Go.Sx.AV.any, Go.Sx.AV.any, Go.Sx.AV.any, Go.Sx.AV.any, Go.Sx.AV.any, Go.Sx.AV.any, Go.Sx.AV.any, Go.Sx.AV.any, Go.Sx.AV.any, Go.Sx.AV.any, Go.Sx.AV.any, Go.Sx.AV.any, Go.Sx.AV.any, Go.Sx.AV.any, Go.Sx.AV.any, Go.Sx.AV.any, Go.Sx.AV.any, Go.Sx.AV.any, Go.Sx.AV.any, Go.Sx.AV.any, Go.Sx.AV.any, Go.Sx.AV.any, Go.Sx.AV.any] [Option.some (Go.Sx.Blk.mk Bool.false (nat_lit 29) (4 : Nat) Bool.true (List.map Go.Proofs.Ytffcpblbdfjagaa.L1.roE l))] = Go.Proofs.Ytffcpblbdfjagaa.L1.gtSt l w (0 : Nat) ∧ Go.Proofs.Ytffcpblbdfjagaa.L1.rtI l w (0 : Nat)) ∧ ∀ (p : Nat), Go.Proofs.Ytffcpblbdfjagaa.L1.rtI l w p → (Decidable.decide ((↑p : Int) < (↑(List.length (List.map Go.Proofs.Ytffcpblbdfjagaa.L1.roE l)) : Int)) = Bool.true → ((0 : Int) ≤ (↑p : Int) ∧ (↑p : Int) < (↑(List.length (List.map Go.Proofs.Ytffcpblbdfjagaa.L1.roE l)) : Int)) ∧ Go.Sx.Blk.read Go.Proofs.Try.prog (Go.Sx.Blk.mk Bool.false (29 : Go.TypeId) (4 : Nat) Bool.true (List.map Go.Proofs.Ytffcpblbdfjagaa.L1.roE l)) (29 : Nat) ((0 : Nat) + Int.toNat (↑p : Int)) (0 : Nat) = Option.some (Go.Sx.AV.agg [Go.Sx.AV.w64 (Go.Sx.M.Ro.p (Go.Sx.M.at' l p)).1, Go.Sx.AV.w64 (Go.Sx.M.Ro.p (Go.Sx.M.at' l p)).2, Go.Sx.AV.int Go.IntKind.i64 (Go.Sx.M.Ro.p (Go.Sx.M.at' l p)).3, Go.Sx.AV.int Go.IntKind.i64 (Go.Sx.M.at' l p).2]) ∧ ((!Go.Sx.M.riR w (Go.Sx.M.Ro.mk (Go.Sx.M.Pf.mk (Go.Sx.M.Ro.p (Go.Sx.M.at' l p)).1 (Go.Sx.M.Ro.p (Go.Sx.M.at' l p)).2 (Go.Sx.M.Ro.p (Go.Sx.M.at' l p)).3) (Go.Sx.M.at' l p).2)) = Bool.true → Go.Sx.AV.bool Bool.false = r) ∧ ((!Go.Sx.M.riR w (Go.Sx.M.Ro.mk (Go.Sx.M.Pf.mk (Go.Sx.M.Ro.p (Go.Sx.M.at' l p)).1 (Go.Sx.M.Ro.p (Go.Sx.M.at' l p)).2 (Go.Sx.M.Ro.p (Go.Sx.M.at' l p)).3) (Go.Sx.M.at' l p).2)) = Bool.false → (Decidable.decide ((↑p : Int) > (0 : Int)) = Bool.true → Go.Sx.inRange Go.IntKind.i64 ((↑p : Int) - (1 : Int)) ∧ ((0 : Int) ≤ (↑p : Int) - (1 : Int) ∧ (↑p : Int) - (1 : Int) < (↑(List.length (List.map Go.Proofs.Ytffcpblbdfjagaa.L1.roE l)) : Int)) ∧ Go.Sx.Blk.read Go.Proofs.Try.prog (Go.Sx.Blk.mk Bool.false (29 : Go.TypeId) (4 : Nat) Bool.true (List.map Go.Proofs.Ytffcpblbdfjagaa.L1.roE l)) (27 : Nat) ((0 : Nat) + Int.toNat ((↑p : Int) - (1 : Int))) ((0 : Nat) + (0 : Nat)) = Option.some (Go.Sx.AV.agg [Go.Sx.AV.w64 (Go.Sx.M.Ro.p (Go.Sx.M.at' l (p - (1 : Nat)))).1, Go.Sx.AV.w64 (Go.Sx.M.Ro.p (Go.Sx.M.at' l (p - (1 : Nat)))).2, Go.Sx.AV.int Go.IntKind.i64 (Go.Sx.M.Ro.p (Go.Sx.M.at' l (p - (1 : Nat)))).3]) ∧ (Decidable.decide (Go.Proofs.Ytffcpblbdfjagaa.L1.cmpP (Go.Sx.M.Ro.p (Go.Sx.M.at' l (p - (1 : Nat)))).1 (Go.Sx.M.Ro.p (Go.Sx.M.at' l (p - (1 : Nat)))).2 (Go.Sx.M.Ro.p (Go.Sx.M.at' l (p - (1 : Nat)))).3 (Go.Sx.M.Ro.p (Go.Sx.M.at' l p)).1 (Go.Sx.M.Ro.p (Go.Sx.M.at' l p)).2 (Go.Sx.M.Ro.p (Go.Sx.M.at' l p)).3 ≥ (0 : Int)) = Bool.true → Go.Sx.AV.bool Bool.false = r) ∧ (Decidable.decide (Go.Proofs.Ytffcpblbdfjagaa.L1.cmpP (Go.Sx.M.Ro.p (Go.Sx.M.at' l (p - (1 : Nat)))).1 (Go.Sx.M.Ro.p (Go.Sx.M.at' l (p - (1 : Nat)))).2 (Go.Sx.M.Ro.p (Go.Sx.M.at' l (p - (1 : Nat)))).3 (Go.Sx.M.Ro.p (Go.Sx.M.at' l p)).1 (Go.Sx.M.Ro.p (Go.Sx.M.at' l p)).2 (Go.Sx.M.Ro.p (Go.Sx.M.at' l p)).3 ≥ (0 : Int)) = Bool.false → Go.Sx.inRange Go.IntKind.i64 ((↑p : Int) + (1 : Int)) ∧ ∃ (p' : Nat), Go.Sx.St.mk [Go.Sx.AV.int Go.IntKind.i64 w, Go.Sx.AV.vsl (0 : Nat) (0 : Nat) (List.length (List.map Go.Proofs.Ytffcpblbdfjagaa.L1.roE l)), Go.Sx.AV.any, Go.Sx.AV.any, Go.Sx.AV.any, Go.Sx.AV.any, Go.Sx.AV.any, Go.Sx.AV.any, Go.Sx.AV.any, Go.Sx.AV.any, Go.Sx.AV.any, Go.Sx.AV.any, Go.Sx.AV.any, Go.Sx.AV.any, Go.Sx.AV.any, Go.Sx.AV.vsl (0 : Nat) (0 : Nat) (List.length (List.map Go.Proofs.Ytffcpblbdfjagaa.L1.roE l)), Go.Sx.AV.int Go.IntKind.i64 (↑(List.length (List.map Go.Proofs.Ytffcpblbdfjagaa.L1.roE l)) : Int), Go.Sx.AV.int Go.IntKind.i64 ((↑p : Int) + (1 : Int)), Go.Sx.AV.any, Go.Sx.AV.any, Go.Sx.AV.any, Go.Sx.AV.any, Go.Sx.AV.any, Go.Sx.AV.any, Go.Sx.AV.any, Go.Sx.AV.any, Go.Sx.AV.any, Go.Sx.AV.any, Go.Sx.AV.any, Go.Sx.AV.any, Go.Sx.AV.any, Go.Sx.AV.any, Go.Sx.AV.any, Go.Sx.AV.any, Go.Sx.AV.any, Go.Sx.AV.any, Go.Sx.AV.any, Go.Sx.AV.any, Go.Sx.AV.any, Go.Sx.AV.any, Go.Sx.AV.any, Go.Sx.AV.any, Go.Sx.AV.any] [Option.some (Go.Sx.Blk.mk Bool.false (29 : Go.TypeId) (4 : Nat) Bool.true (List.map Go.Proofs.Ytffcpblbdfjagaa.L1.roE l))] = Go.Proofs.Ytffcpblbdfjagaa.L1.gtSt l w p' ∧ Go.Proofs.Ytffcpblbdfjagaa.L1.rtI l w p' ∧ List.length l + (1 : Nat) - p' < List.length l + (1 : Nat) - p)) ∧ (Decidable.decide ((↑p : Int) > (0 : Int)) = Bool.false → Go.Sx.inRange Go.IntKind.i64 ((↑p : Int) + (1 : Int)) ∧ ∃ (p' : Nat), Go.Sx.St.mk [Go.Sx.AV.int Go.IntKind.i64 w, Go.Sx.AV.vsl (0 : Nat) (0 : Nat) (List.length (List.map Go.Proofs.Ytffcpblbdfjagaa.L1.roE l)), Go.Sx.AV.any, Go.Sx.AV.any, Go.Sx.AV.any, Go.Sx.AV.any, Go.Sx.AV.any, Go.Sx.AV.any, Go.Sx.AV.any, Go.Sx.AV.any, Go.Sx.AV.any, Go.Sx.AV.any, Go.Sx.AV.any, Go.Sx.AV.any, Go.Sx.AV.any, Go.Sx.AV.vsl (0 : Nat) (0 : Nat) (List.length (List.map Go.Proofs.Ytffcpblbdfjagaa.L1.roE l)), Go.Sx.AV.int Go.IntKind.i64 (↑(List.length (List.map Go.Proofs.Ytffcpblbdfjagaa.L1.roE l)) : Int), Go.Sx.AV.int Go.IntKind.i64 ((↑p : Int) + (1 : Int)), Go.Sx.AV.any, Go.Sx.AV.any, Go.Sx.AV.any, Go.Sx.AV.any, Go.Sx.AV.any, Go.Sx.AV.any, Go.Sx.AV.any, Go.Sx.AV.any, Go.Sx.AV.any, Go.Sx.AV.any, Go.Sx.AV.any, Go.Sx.AV.any, Go.Sx.AV.any, Go.Sx.AV.any, Go.Sx.AV.any, Go.Sx.AV.any, Go.Sx.AV.any, Go.Sx.AV.any, Go.Sx.AV.any, Go.Sx.AV.any, Go.Sx.AV.any, Go.Sx.AV.any, Go.Sx.AV.any, Go.Sx.AV.any, Go.Sx.AV.any] [Option.some (Go.Sx.Blk.mk Bool.false (29 : Go.TypeId) (4 : Nat) Bool.true (List.map Go.Proofs.Ytffcpblbdfjagaa.L1.roE l))] = Go.Proofs.Ytffcpblbdfjagaa.L1.gtSt l w p' ∧ Go.Proofs.Ytffcpblbdfjagaa.L1.rtI l w p' ∧ List.length l + (1 : Nat) - p' < List.length l + (1 : Nat) - p))) ∧ (Decidable.decide ((↑p : Int) < (↑(List.length (List.map Go.Proofs.Ytffcpblbdfjagaa.L1.roE l)) : Int)) = Bool.false → Go.Sx.AV.bool Bool.true = r)))) := by kernel_rfl

theorem gtable6Cs_ok : ∀ e ∈ gtable6Cs, SpecOK Try.prog e.1 e.2 := by
  intro e he
  simp only [gtable6Cs, List.mem_cons, List.not_mem_nil, or_false] at he
  rcases he with rfl | rfl | rfl
  · exact gright6_ok
  · exact pfam_ok
  · exact cmpp_ok

theorem gtable6_ok : SpecOK Try.prog 15 (genSpec [none, pRo] gtableF) := by
  refine genSpec_ok (run_ok (l := gtable6Cs) gtable6Cs_ok mixed noNG) fun l R hF => ?_
  unfold gtableF at hF
  split at hF
  · rename_i w r_l
    obtain ⟨hr_l, hl, hF⟩ := hF
    generalize deR r_l = l at hr_l hl hF
    subst hr_l
    refine ⟨_, hF, rfl, (gtH l w), ?_⟩
    show run gtable6Cs Try.prog _ [.int .i64 w, .vsl 0 0 (l.map roE).length] [some ⟨false, (pRo.getD (0, 0)).1, (pRo.getD (0, 0)).2, true, (l.map roE)⟩] _ _
    rw [gtable6_run]
    refine ⟨fun h => ?_, fun h => ⟨fun hg => ?_, fun hg => ⟨⟨rfl, Nat.zero_le _, fun i hi => by omega⟩, ?_⟩⟩⟩
    · have h : ¬ (w = 32 ∨ w = 128) := by simpa using h
      rw [notT tbR_def fun hh => h hh.1]
    · have hg : l.length > 256 := by simp only [decide_eq_true_eq, List.length_map] at hg; omega
      rw [notT tbR_def fun hh => by have := hh.2.1; omega]
    have hw : w = 32 ∨ w = 128 := by
      by_cases e : w = 32 ∨ w = 128
      · exact e
      · rw [decide_eq_false e] at h; cases h
    have hm : l.length ≤ 256 := by simp only [decide_eq_false_iff_not, List.length_map] at hg; omega
    rintro p ⟨h1, h2⟩
    refine ⟨fun hlt => ?_, fun hge => ?_⟩
    · have hp : p < l.length := by simp only [decide_eq_true_eq, List.length_map] at hlt; omega
      have B : 0 ≤ (p : Int) ∧ (p : Int) < ((l.map roE).length : Int) := by rw [List.length_map]; omega
      have nx : riR w (at' l p) = true → (0 < p → cpP (at' l (p - 1)).p (at' l p).p < 0) → inRange .i64 ((p : Int) + 1) ∧ ∃ p', gtSt l w (p + 1) = gtSt l w p' ∧ rtI l w p' ∧ l.length + 1 - p' < l.length + 1 - p := fun g1 g2 => ⟨inR (by omega) (by omega), p + 1, rfl, ⟨by omega, up h2 ⟨g1, g2⟩⟩, by omega⟩
      refine ⟨B, read_rows B.1 B.2 (ro_whole _), fun hr => ?_, fun hr => ⟨fun h0 => ?_, fun h0 => nx (by simpa using hr) fun h => ?_⟩⟩
      · have hr : riR w (at' l p) = false := by simpa using hr
        rw [notT tbR_def fun h => by have := h.2.2.1 p hp; rw [hr] at this; cases this]
      · have h0 : 0 < p := by simp only [decide_eq_true_eq] at h0; omega
        have e1 : ((p : Int) - 1).toNat = p - 1 := by omega
        refine ⟨inR (by omega) (by omega), ⟨by omega, by omega⟩, read_rows (by omega) (by omega) (by rw [e1]; exact ro_p _), fun hc => ?_, fun hc => nx (by simpa using hr) fun _ => ?_⟩
        · have hc : cpP (at' l (p - 1)).p (at' l p).p ≥ 0 := of_decide_eq_true hc
          rw [notT tbR_def fun h => by have := h.2.2.2 p hp h0; omega]
        · have hc : ¬ cpP (at' l (p - 1)).p (at' l p).p ≥ 0 := of_decide_eq_false hc
          omega
      · simp only [decide_eq_false_iff_not] at h0; omega
    · have hp : p = l.length := by simp only [decide_eq_false_iff_not, List.length_map] at hge; omega
      subst hp
      rw [tbR_def.2 ⟨hw, hm, fun i hi => (h2 i hi).1, fun i hi => (h2 i hi).2⟩]
  · exact hF.elim


noncomputable def place6Cs : List (FuncId × Sx.Spec) := [(42, genSpec [none, none] cmppF)]

theorem place6_run (l : List Ro) (a b : BitVec 64) (k : Int) (r : AV) : run place6Cs Try.prog 46 [.vsl 0 0 (l.map roE).length, .agg [.w64 a, .w64 b, .int .i64 k]] [some ⟨false, (pRo.getD (0, 0)).1, (pRo.getD (0, 0)).2, true, (l.map roE)⟩] (plH l a b k) (yields (.v r)) =
    ((Go.Sx.St.mk [Go.Sx.AV.vsl (0 : Nat) (0 : Nat) (List.length (List.map Go.Proofs.Ytffcpblbdfjagaa.L1.roE l)), Go.Sx.AV.any, Go.Sx.AV.func (Go.Fn.func (62 : Nat)) [] [], Go.Sx.AV.any, Go.Sx.AV.ptr ((0 : Nat) + (1 : Nat) + (1 : Nat)) (0 : Nat) (0 : Nat) Bool.true, Go.Sx.AV.any, Go.Sx.AV.any, Go.Sx.AV.any, Go.Sx.AV.int Go.IntKind.i64 (↑(List.length (List.map Go.Proofs.Ytffcpblbdfjagaa.L1.roE l)) : Int), Go.Sx.AV.int Go.IntKind.i64 (0 : Int), Go.Sx.AV.int Go.IntKind.i64 (↑(List.length (List.map Go.Proofs.Ytffcpblbdfjagaa.L1.roE l)) : Int), Go.Sx.AV.any, Go.Sx.AV.any, Go.Sx.AV.any, Go.Sx.AV.any, Go.Sx.AV.any, Go.Sx.AV.any, Go.Sx.AV.any, Go.Sx.AV.any, Go.Sx.AV.any, Go.Sx.AV.any, Go.Sx.AV.any, Go.Sx.AV.any, Go.Sx.AV.any, Go.Sx.AV.any, Go.Sx.AV.any, Go.Sx.AV.any, Go.Sx.AV.any, Go.Sx.AV.any, Go.Sx.AV.any, Go.Sx.AV.any, Go.Sx.AV.any, Go.Sx.AV.any, Go.Sx.AV.any, Go.Sx.AV.any, Go.Sx.AV.any, Go.Sx.AV.any, Go.Sx.AV.any, Go.Sx.AV.any, Go.Sx.AV.any, Go.Sx.AV.any, Go.Sx.AV.any, Go.Sx.AV.any, Go.Sx.AV.any, Go.Sx.AV.any, Go.Sx.AV.any, Go.Sx.AV.any, Go.Sx.AV.any, Go.Sx.AV.any] [Option.some (Go.Sx.Blk.mk Bool.false (nat_lit 29) (4 : Nat) Bool.true (List.map Go.Proofs.Ytffcpblbdfjagaa.L1.roE l)), Option.some (Go.Sx.Blk.mk Bool.true (27 : Nat) (3 : Nat) Bool.true [Go.Sx.AV.agg [Go.Sx.AV.w64 a, Go.Sx.AV.w64 b, Go.Sx.AV.int Go.IntKind.i64 k]]), Option.some (Go.Sx.Blk.mk Bool.true (27 : Nat) (3 : Nat) Bool.true [Go.Sx.AV.agg [Go.Sx.AV.w64 a, Go.Sx.AV.w64 b, Go.Sx.AV.int Go.IntKind.i64 k]])] = Go.Proofs.Ytffcpblbdfjagaa.L1.plSt l a b k ((0 : Nat), List.length (List.map Go.Proofs.Ytffcpblbdfjagaa.L1.roE l)) ∧ Go.Proofs.Ytffcpblbdfjagaa.L1.plI l (Go.Sx.M.Pf.mk a b k) ((0 : Nat), List.length (List.map Go.Proofs.Ytffcpblbdfjagaa.L1.roE l))) ∧ ∀ (p : Nat × Nat), Go.Proofs.Ytffcpblbdfjagaa.L1.plI l (Go.Sx.M.Pf.mk a b k) p → (Decidable.decide ((↑p.1 : Int) < (↑p.2 : Int)) = Bool.true → Go.Sx.inRange Go.IntKind.i64 ((↑p.1 : Int) + (↑p.2 : Int)) ∧ Go.IntKind.wrap Go.IntKind.i64 (↑(BitVec.toNat (BitVec.ofInt (64 : Nat) ((↑p.1 : Int) + (↑p.2 : Int)) >>> Int.toNat (1 : Int))) : Int) = (↑((p.1 + p.2) / (2 : Nat)) : Int) ∧ (p.1 + p.2) / (2 : Nat) < List.length (List.map Go.Proofs.Ytffcpblbdfjagaa.L1.roE l) ∧ Go.Sx.Blk.read Go.Proofs.Try.prog (Go.Sx.Blk.mk Bool.false (29 : Go.TypeId) (4 : Nat) Bool.true (List.map Go.Proofs.Ytffcpblbdfjagaa.L1.roE l)) (29 : Nat) ((0 : Nat) + (p.1 + p.2) / (2 : Nat)) (0 : Nat) = Option.some (Go.Sx.AV.agg [Go.Sx.AV.w64 (Go.Sx.M.Ro.p (Go.Sx.M.at' l ((Prod.fst p + Prod.snd p) / (2 : Nat)))).1, Go.Sx.AV.w64 (Go.Sx.M.Ro.p (Go.Sx.M.at' l ((Prod.fst p + Prod.snd p) / (2 : Nat)))).2, Go.Sx.AV.int Go.IntKind.i64 (Go.Sx.M.Ro.p (Go.Sx.M.at' l ((Prod.fst p + Prod.snd p) / (2 : Nat)))).3, Go.Sx.AV.int Go.IntKind.i64 (Go.Sx.M.at' l ((Prod.fst p + Prod.snd p) / (2 : Nat))).2]) ∧ (Decidable.decide (Go.Proofs.Ytffcpblbdfjagaa.L1.cmpP (Go.Sx.M.Ro.p (Go.Sx.M.at' l ((Prod.fst p + Prod.snd p) / (2 : Nat)))).1 (Go.Sx.M.Ro.p (Go.Sx.M.at' l ((Prod.fst p + Prod.snd p) / (2 : Nat)))).2 (Go.Sx.M.Ro.p (Go.Sx.M.at' l ((Prod.fst p + Prod.snd p) / (2 : Nat)))).3 a b k < (0 : Int)) = Bool.true → Go.Sx.inRange Go.IntKind.i64 (Go.IntKind.wrap Go.IntKind.i64 (↑(BitVec.toNat (BitVec.ofInt (64 : Nat) ((↑p.1 : Int) + (↑p.2 : Int)) >>> Int.toNat (1 : Int))) : Int) + (1 : Int)) ∧ ∃ (p' : Nat × Nat), Go.Sx.St.mk [Go.Sx.AV.vsl (0 : Nat) (0 : Nat) (List.length (List.map Go.Proofs.Ytffcpblbdfjagaa.L1.roE l)), Go.Sx.AV.any, Go.Sx.AV.func (Go.Fn.func (62 : Go.FuncId)) [] [], Go.Sx.AV.any, Go.Sx.AV.ptr ((0 : Nat) + (1 : Nat) + (1 : Nat)) (0 : Nat) (0 : Nat) Bool.true, Go.Sx.AV.any, Go.Sx.AV.any, Go.Sx.AV.any, Go.Sx.AV.int Go.IntKind.i64 (↑(List.length (List.map Go.Proofs.Ytffcpblbdfjagaa.L1.roE l)) : Int), Go.Sx.AV.int Go.IntKind.i64 (Go.IntKind.wrap Go.IntKind.i64 (↑(BitVec.toNat (BitVec.ofInt (64 : Nat) ((↑p.1 : Int) + (↑p.2 : Int)) >>> Int.toNat (1 : Int))) : Int) + (1 : Int)), Go.Sx.AV.int Go.IntKind.i64 (↑p.2 : Int), Go.Sx.AV.any, Go.Sx.AV.any, Go.Sx.AV.any, Go.Sx.AV.any, Go.Sx.AV.any, Go.Sx.AV.any, Go.Sx.AV.any, Go.Sx.AV.any, Go.Sx.AV.any, Go.Sx.AV.any, Go.Sx.AV.any, Go.Sx.AV.any, Go.Sx.AV.any, Go.Sx.AV.any, Go.Sx.AV.any, Go.Sx.AV.any, Go.Sx.AV.any, Go.Sx.AV.any, Go.Sx.AV.any, Go.Sx.AV.any, Go.Sx.AV.any, Go.Sx.AV.any, Go.Sx.AV.any, Go.Sx.AV.any, Go.Sx.AV.any, Go.Sx.AV.any, Go.Sx.AV.any, Go.Sx.AV.any, Go.Sx.AV.any, Go.Sx.AV.any, Go.Sx.AV.any, Go.Sx.AV.any, Go.Sx.AV.any, Go.Sx.AV.any, Go.Sx.AV.any, Go.Sx.AV.any, Go.Sx.AV.any, Go.Sx.AV.any] [Option.some (Go.Sx.Blk.mk Bool.false (29 : Go.TypeId) (4 : Nat) Bool.true (List.map Go.Proofs.Ytffcpblbdfjagaa.L1.roE l)), Option.some (Go.Sx.Blk.mk Bool.true (27 : Go.TypeId) (3 : Nat) Bool.true [Go.Sx.AV.agg [Go.Sx.AV.w64 a, Go.Sx.AV.w64 b, Go.Sx.AV.int Go.IntKind.i64 k]]), Option.some (Go.Sx.Blk.mk Bool.true (27 : Go.TypeId) (3 : Nat) Bool.true [Go.Sx.AV.agg [Go.Sx.AV.w64 a, Go.Sx.AV.w64 b, Go.Sx.AV.int Go.IntKind.i64 k]])] = Go.Proofs.Ytffcpblbdfjagaa.L1.plSt l a b k p' ∧ Go.Proofs.Ytffcpblbdfjagaa.L1.plI l (Go.Sx.M.Pf.mk a b k) p' ∧ p'.2 - p'.1 < p.2 - p.1) ∧ (Decidable.decide (Go.Proofs.Ytffcpblbdfjagaa.L1.cmpP (Go.Sx.M.Ro.p (Go.Sx.M.at' l ((Prod.fst p + Prod.snd p) / (2 : Nat)))).1 (Go.Sx.M.Ro.p (Go.Sx.M.at' l ((Prod.fst p + Prod.snd p) / (2 : Nat)))).2 (Go.Sx.M.Ro.p (Go.Sx.M.at' l ((Prod.fst p + Prod.snd p) / (2 : Nat)))).3 a b k < (0 : Int)) = Bool.false → ∃ (p' : Nat × Nat), Go.Sx.St.mk [Go.Sx.AV.vsl (0 : Nat) (0 : Nat) (List.length (List.map Go.Proofs.Ytffcpblbdfjagaa.L1.roE l)), Go.Sx.AV.any, Go.Sx.AV.func (Go.Fn.func (62 : Go.FuncId)) [] [], Go.Sx.AV.any, Go.Sx.AV.ptr ((0 : Nat) + (1 : Nat) + (1 : Nat)) (0 : Nat) (0 : Nat) Bool.true, Go.Sx.AV.any, Go.Sx.AV.any, Go.Sx.AV.any, Go.Sx.AV.int Go.IntKind.i64 (↑(List.length (List.map Go.Proofs.Ytffcpblbdfjagaa.L1.roE l)) : Int), Go.Sx.AV.int Go.IntKind.i64 (↑p.1 : Int), Go.Sx.AV.int Go.IntKind.i64 (Go.IntKind.wrap Go.IntKind.i64 (↑(BitVec.toNat (BitVec.ofInt (64 : Nat) ((↑p.1 : Int) + (↑p.2 : Int)) >>> Int.toNat (1 : Int))) : Int)), Go.Sx.AV.any, Go.Sx.AV.any, Go.Sx.AV.any, Go.Sx.AV.any, Go.Sx.AV.any, Go.Sx.AV.any, Go.Sx.AV.any, Go.Sx.AV.any, Go.Sx.AV.any, Go.Sx.AV.any, Go.Sx.AV.any, Go.Sx.AV.any, Go.Sx.AV.any, Go.Sx.AV.any, Go.Sx.AV.any, Go.Sx.AV.any, Go.Sx.AV.any, Go.Sx.AV.any, Go.Sx.AV.any, Go.Sx.AV.any, Go.Sx.AV.any, Go.Sx.AV.any, Go.Sx.AV.any, Go.Sx.AV.any, Go.Sx.AV.any, Go.Sx.AV.any, Go.Sx.AV.any, Go.Sx.AV.any, Go.Sx.AV.any, Go.Sx.AV.any, Go.Sx.AV.any, Go.Sx.AV.any, Go.Sx.AV.any, Go.Sx.AV.any, Go.Sx.AV.any, Go.Sx.AV.any, Go.Sx.AV.any, Go.Sx.AV.any] [Option.some (Go.Sx.Blk.mk Bool.false (29 : Go.TypeId) (4 : Nat) Bool.true (List.map Go.Proofs.Ytffcpblbdfjagaa.L1.roE l)), Option.some (Go.Sx.Blk.mk Bool.true (27 : Go.TypeId) (3 : Nat) Bool.true [Go.Sx.AV.agg [Go.Sx.AV.w64 a, Go.Sx.AV.w64 b, Go.Sx.AV.int Go.IntKind.i64 k]]), Option.some (Go.Sx.Blk.mk Bool.true (27 : Go.TypeId) (3 : Nat) Bool.true [Go.Sx.AV.agg [Go.Sx.AV.w64 a, Go.Sx.AV.w64 b, Go.Sx.AV.int Go.IntKind.i64 k]])] = Go.Proofs.Ytffcpblbdfjagaa.L1.plSt l a b k p' ∧ Go.Proofs.Ytffcpblbdfjagaa.L1.plI l (Go.Sx.M.Pf.mk a b k) p' ∧ p'.2 - p'.1 < p.2 - p.1)) ∧ (Decidable.decide ((↑p.1 : Int) < (↑p.2 : Int)) = Bool.false → (Decidable.decide ((↑p.1 : Int) < (↑(List.length (List.map Go.Proofs.Ytffcpblbdfjagaa.L1.roE l)) : Int)) = Bool.true → ((0 : Int) ≤ (↑p.1 : Int) ∧ (↑p.1 : Int) < (↑(List.length (List.map Go.Proofs.Ytffcpblbdfjagaa.L1.roE l)) : Int)) ∧ Go.Sx.Blk.read Go.Proofs.Try.prog (Go.Sx.Blk.mk Bool.false (29 : Go.TypeId) (4 : Nat) Bool.true (List.map Go.Proofs.Ytffcpblbdfjagaa.L1.roE l)) (29 : Nat) ((0 : Nat) + Int.toNat (↑p.1 : Int)) (0 : Nat) = Option.some (Go.Sx.AV.agg [Go.Sx.AV.w64 (Go.Sx.M.Ro.p (Go.Sx.M.at' l (Prod.fst p))).1, Go.Sx.AV.w64 (Go.Sx.M.Ro.p (Go.Sx.M.at' l (Prod.fst p))).2, Go.Sx.AV.int Go.IntKind.i64 (Go.Sx.M.Ro.p (Go.Sx.M.at' l (Prod.fst p))).3, Go.Sx.AV.int Go.IntKind.i64 (Go.Sx.M.at' l (Prod.fst p)).2]) ∧ Go.Sx.AV.tuple [Go.Sx.AV.int Go.IntKind.i64 (↑p.1 : Int), Go.Sx.AV.bool (Go.Proofs.Ytffcpblbdfjagaa.L1.cmpP (Go.Sx.M.Ro.p (Go.Sx.M.at' l (Prod.fst p))).1 (Go.Sx.M.Ro.p (Go.Sx.M.at' l (Prod.fst p))).2 (Go.Sx.M.Ro.p (Go.Sx.M.at' l (Prod.fst p))).3 a b k == (0 : Int))] = r) ∧ (Decidable.decide ((↑p.1 : Int) < (↑(List.length (List.map Go.Proofs.Ytffcpblbdfjagaa.L1.roE l)) : Int)) = Bool.false → Go.Sx.AV.tuple [Go.Sx.AV.int Go.IntKind.i64 (↑p.1 : Int), Go.Sx.AV.bool Bool.false] = r))) := by kernel_rfl

theorem place6Cs_ok : ∀ e ∈ place6Cs, SpecOK Try.prog e.1 e.2 := by
  intro e he
  simp only [place6Cs, List.mem_cons, List.not_mem_nil, or_false] at he
  rcases he with rfl
  · exact cmpp_ok

theorem place6_ok : SpecOK Try.prog 46 (genSpec [pRo, none] placeF) := by
  refine genSpec_ok (run_ok (l := place6Cs) place6Cs_ok mixed noNG) fun l R hF => ?_
  unfold placeF at hF
  split at hF
  · rename_i r_l a b k
    obtain ⟨hr_l, hl, hF⟩ := hF
    generalize deR r_l = l at hr_l hl hF
    subst hr_l
    refine ⟨_, hF, rfl, (plH l a b k), ?_⟩
    show run place6Cs Try.prog _ [.vsl 0 0 (l.map roE).length, .agg [.w64 a, .w64 b, .int .i64 k]] [some ⟨false, (pRo.getD (0, 0)).1, (pRo.getD (0, 0)).2, true, (l.map roE)⟩] _ _
    rw [place6_run]
    have T := tbR_iff.1 hl
    have hm := T.most
    have half : ∀ a b : Nat, a + b ≤ 1000000 → IntKind.i64.wrap (((BitVec.ofInt 64 ((a : Int) + (b : Int))) >>> Int.toNat 1).toNat : Int) = (((a + b) / 2 : Nat) : Int) := fun a b h => by
      have e := toNat_ofInt (n := (a : Int) + b) (by omega) (by omega)
      have e2 : (BitVec.ofInt 64 ((a : Int) + (b : Int))).toNat = a + b := by omega
      rw [BitVec.toNat_ushiftRight, e2, show Int.toNat 1 = 1 from rfl, Nat.shiftRight_eq_div_pow, IntKind.wrap_i64]
      omega
    refine ⟨⟨rfl, Nat.zero_le _, by rw [List.length_map]; exact Nat.le_refl _, fun t ht => absurd ht (Nat.not_lt_zero _), fun t h1 h2 => by rw [List.length_map] at h1; omega⟩, ?_⟩
    rintro ⟨i, j⟩ ⟨h1, h2, h3, h4⟩
    dsimp only at h1 h2 h3 h4 ⊢
    refine ⟨fun hlt => ?_, fun hge => ?_⟩
    · have hlt : i < j := by have := of_decide_eq_true hlt; omega
      have hh := half i j (by omega)
      have hb : (i + j) / 2 < l.length := by omega
      refine ⟨inR (by omega) (by omega), hh, by rw [List.length_map]; exact hb, read_rows (k := (((i + j) / 2 : Nat) : Int)) (by omega) (by rw [List.length_map]; omega) (ro_whole _), fun hc => ?_, fun hc => ?_⟩
      · have hc : cpP (at' l ((i + j) / 2)).p ⟨a, b, k⟩ < 0 := of_decide_eq_true hc
        refine ⟨by rw [hh]; exact inR (by omega) (by omega), ((i + j) / 2 + 1, j), by rw [hh]; rfl, ⟨?_, h2, fun t ht => lt_down T ?_ hb hc, h4⟩, ?_⟩
        · show (i + j) / 2 + 1 ≤ j
          omega
        · have ht : t < (i + j) / 2 + 1 := ht
          omega
        · show j - ((i + j) / 2 + 1) < j - i
          omega
      · have hc : ¬ cpP (at' l ((i + j) / 2)).p ⟨a, b, k⟩ < 0 := of_decide_eq_false hc
        refine ⟨(i, (i + j) / 2), by rw [hh]; rfl, ⟨?_, ?_, h3, fun t ht htl => ge_up T ht htl hc⟩, ?_⟩
        · show i ≤ (i + j) / 2
          omega
        · show (i + j) / 2 ≤ l.length
          omega
        · show (i + j) / 2 - i < j - i
          omega
    · have he : i = j := by have := of_decide_eq_false hge; omega
      subst he
      have hp : PlN l ⟨a, b, k⟩ i := ⟨h2, h3, fun hi => h4 i (Nat.le_refl _) hi⟩
      rw [plN_is hp]
      refine ⟨fun hlt => ?_, fun hge => ?_⟩
      · have hi : i < l.length := by have := of_decide_eq_true hlt; rw [List.length_map] at this; omega
        refine ⟨⟨by omega, by rw [List.length_map]; omega⟩, read_rows (k := (i : Int)) (by omega) (by rw [List.length_map]; omega) (ro_whole _), ?_⟩
        have e : (cmpP (at' l i).p.a (at' l i).p.b (at' l i).p.len a b k == 0) = (fdR l ⟨a, b, k⟩).isSome := by
          have d : cmpP (at' l i).p.a (at' l i).p.b (at' l i).p.len a b k = cpP (at' l i).p ⟨a, b, k⟩ := rfl
          rw [d]
          rcases fd_place T hp with ⟨⟨h, _⟩, hn⟩ | ⟨_, h0, _, h⟩
          · rw [h, beq_false_of_ne (hn hi)]; rfl
          · rw [h, h0]; rfl
        rw [← e]
      · have hi : ¬ i < l.length := by have := of_decide_eq_false hge; rw [List.length_map] at this; omega
        have e : fdR l ⟨a, b, k⟩ = none := by
          rcases fd_place T hp with ⟨⟨h, _⟩, _⟩ | ⟨h, _⟩
          · exact h
          · exact absurd h hi
        rw [e]; rfl
  · exact hF.elim


end Go.Proofs.Ytffcpblbdfjagaa.L1
