/-
  Layer 5: contracts of the program's calls on entries: Right, Of, Above, Ordered, First, Best, Tell, Compare, Alike.
-/
import Derived.Test.YtbhbokhdkapkpaaL5D
import Derived.Test.YtbhbokhdkapkpaaM13
namespace Go.Proofs.Ytbhbokhdkapkpaa.L1
open Go.Sx Go.Sx.M

def pInt : Par := some (3, 1)

def cmpzF : List Arg → (Res → Prop) → Prop
  | [.v (.int .i64 m), .v (.int .i64 n)], R => R (.v (.int .i64 (cmpZ m n)))
  | _, _ => False

def or4F : List Arg → (Res → Prop) → Prop
  | [.row [.int .i64 a, .int .i64 b, .int .i64 c, .int .i64 d]], R => R (.v (.int .i64 (orZ a (orZ b (orZ c d)))))
  | _, _ => False

theorem mx0_of {x : Int} (h : 0 ≤ x) : mx0 x = x := by unfold mx0; rw [if_neg (by omega)]

/-- The closures that First and Ordered make. -/
def efFn : AV := .func (.func 44) [] [.ptr 1 0 0 true]
def eoFn : AV := .func (.func 47) [] [.ptr 1 0 0 true]

/-- The program's First: the state of slices.IndexFunc's loop. -/
def efSt (l : List En) (a b : BitVec 64) (p : Nat) : St :=
  ⟨[.vsl 0 0 (l.map enE).length, efFn, .any, .any, .any, .any, .any, .int .i64 (l.map enE).length, .int .i64 p, .any, .any, .any, .any, .any, .any, .any, .any, .any, .any], [some ⟨false, 28, 6, true, l.map enE⟩, some ⟨true, 24, 2, true, [.agg [.w64 a, .w64 b]]⟩]⟩
def efM0 : Modes := ⟨[1, 1, 0, 0, 0, 0, 0, 1, 2, 0, 0, 0, 0, 0, 0, 0, 0, 0, 0], [], [], [], []⟩
def efM : Modes := ⟨[1, 1, 0, 0, 0, 0, 0, 1, 1, 0, 0, 0, 0, 0, 0, 0, 0, 0, 0], [], [], [], []⟩
def efM' : Modes := ⟨[0, 0, 0, 0, 2, 0, 0, 0, 0, 0, 0, 0, 0, 0, 0, 0, 0, 0, 0], [], [], [], []⟩
def efH (l : List En) (a b : BitVec 64) : List Hint := [.linv _ 0 (efSt l a b) (rfI l a b) (fun p => l.length + 1 - p) efM0 efM efM' (fun _ => []) fun p =>
  [.fork [.dy, .cell (enE (at' l p)), .fork [] [.nw]] []]]

def ebSt (l : List En) (a b : BitVec 64) (p : Nat) : St :=
  ⟨[.vsl 0 0 (l.map enE).length, .any, .any, .ptr 1 0 0 true, .any, .any, .int .i64 (mx0 (fbG l a b p)), .bool (decide (fbG l a b p ≥ 0)), .any, .any, .any, .vsl 0 0 (l.map enE).length, .int .i64 (l.map enE).length, .int .i64 p, .any, .any, .any, .any, .any, .any, .any, .any, .any, .any, .any, .any, .any, .any, .any, .any, .any, .any, .any, .any, .any, .any, .any, .any, .any, .any, .any], [some ⟨false, 28, 6, true, l.map enE⟩, some ⟨true, 24, 2, true, [.agg [.w64 a, .w64 b]]⟩]⟩
def ebM0 : Modes := ⟨[1, 0, 0, 1, 0, 0, 2, 2, 0, 0, 0, 1, 1, 2, 0, 0, 0, 0, 0, 0, 0, 0, 0, 0, 0, 0, 0, 0, 0, 0, 0, 0, 0, 0, 0, 0, 0, 0, 0, 0, 0], [], [], [], []⟩
def ebM : Modes := ⟨[1, 0, 0, 1, 0, 0, 1, 1, 0, 0, 0, 1, 1, 1, 0, 0, 0, 0, 0, 0, 0, 0, 0, 0, 0, 0, 0, 0, 0, 0, 0, 0, 0, 0, 0, 0, 0, 0, 0, 0, 0], [], [], [], []⟩
def ebN : Modes := ⟨[1, 0, 0, 1, 0, 0, 2, 2, 0, 0, 0, 1, 1, 1, 0, 0, 0, 0, 0, 0, 0, 0, 0, 0, 0, 0, 0, 0, 0, 0, 0, 0, 0, 0, 0, 0, 0, 0, 0, 0, 0], [], [], [], []⟩
def ebM' : Modes := ⟨[0, 0, 0, 0, 0, 0, 1, 1, 0, 0, 0, 0, 0, 0, 0, 0, 0, 0, 0, 0, 0, 0, 0, 0, 0, 0, 0, 0, 0, 0, 0, 0, 0, 0, 0, 0, 0, 0, 0, 0, 0], [], [], [], []⟩
def ebH (l : List En) (a b : BitVec 64) : List Hint := [.linv _ 0 (ebSt l a b) (fun p => p ≤ l.length) (fun p => l.length + 1 - p) ebM0 ebN ebM' (fun _ => []) fun p =>
  [.fork [.dy, .cell (enE (at' l p)), .fork [.fork [.nw] [.nw]] [.dy, .cell (.int .i64 (at' l (mx0 (fbG l a b p)).toNat).len), .fork [.fork [.nw] [.nw]] [.nw]]] []]]

def eoSt (l : List En) (p : Nat) : St :=
  ⟨[.vsl 0 0 (l.map enE).length, .any, .any, .int .i64 (mnG l p), .any, .any, .any, .vsl 0 0 (l.map enE).length, .int .i64 (l.map enE).length, .int .i64 p, .any, .any, .any, .any, .any, .any, .any, .any, .any, .any, .any, .any, .any, .any, .any, .any, .any, .any, .any, .any, .any], [some ⟨false, 28, 6, true, l.map enE⟩]⟩
def eoSt2 (l : List En) (p k : Nat) : St :=
  ⟨[.vsl 0 0 p, eoFn, .any, .any, .any, .any, .any, .int .i64 p, .int .i64 k, .any, .any, .any, .any, .any, .any, .any, .any, .any, .any], [some ⟨false, 28, 6, true, l.map enE⟩, some ⟨true, 28, 6, true, [enE (at' l p)]⟩]⟩
def eoM0 : Modes := ⟨[1, 0, 0, 2, 0, 0, 0, 1, 1, 2, 0, 0, 0, 0, 0, 0, 0, 0, 0, 0, 0, 0, 0, 0, 0, 0, 0, 0, 0, 0, 0], [], [], [], []⟩
def eoM : Modes := ⟨[1, 0, 0, 1, 0, 0, 0, 1, 1, 1, 0, 0, 0, 0, 0, 0, 0, 0, 0, 0, 0, 0, 0, 0, 0, 0, 0, 0, 0, 0, 0], [], [], [], []⟩
def eoM' : Modes := ⟨[0, 0, 2, 0, 0, 0, 0, 0, 0, 0, 0, 0, 0, 0, 0, 0, 0, 0, 0, 0, 0, 0, 0, 0, 0, 0, 0, 0, 0, 0, 0], [], [], [], []⟩
def eoN0 : Modes := ⟨[1, 1, 0, 0, 0, 0, 0, 1, 2, 0, 0, 0, 0, 0, 0, 0, 0, 0, 0], [], [], [], []⟩
def eoN : Modes := ⟨[1, 1, 0, 0, 0, 0, 0, 1, 1, 0, 0, 0, 0, 0, 0, 0, 0, 0, 0], [], [], [], []⟩
def eoI2 (l : List En) (p k : Nat) : Prop := k ≤ p ∧ ∀ j, j < k → abE (at' l p) (at' l j) = false
def eoH (l : List En) : List Hint := [.linv _ 0 (eoSt l) (fun p => p ≤ l.length ∧ OrTo l p) (fun p => l.length + 1 - p) eoM0 eoM eoM' (fun _ => []) fun p =>
  [.fork [.dy, .cell (enE (at' l p)), .fork [.ix p, .linv _ 0 (eoSt2 l p) (eoI2 l p) (fun k => l.length + 1 - k) eoN0 eoN efM' (fun _ => [.br true]) fun k =>
    [.fork [.dy, .cell (enE (at' l k)), .fork [] [.nw]] []]] [.nw]] []]]

theorem cmpz_run (m n : Int) (r : AV) : run [] Try.prog 52 [.int .i64 m, .int .i64 n] [] [.br false, .br false, .fork [] [.fork [] []]] (yields (.v r)) =
    ((m != m) = Bool.false ∧ (n != n) = Bool.false ∧ (Decidable.decide (m < n) = Bool.true → Go.Sx.AV.int Go.IntKind.i64 (-1 : Int) = r) ∧ (Decidable.decide (m < n) = Bool.false → (Decidable.decide (m > n) = Bool.true → Go.Sx.AV.int Go.IntKind.i64 (1 : Int) = r) ∧ (Decidable.decide (m > n) = Bool.false → Go.Sx.AV.int Go.IntKind.i64 (0 : Int) = r))) := by kernel_rfl

theorem cmpz_ok : SpecOK Try.prog 52 (genSpec [none, none] cmpzF) := by
  refine genSpec_ok none_ok fun l R hF => ?_
  unfold cmpzF at hF
  split at hF
  · rename_i m n
    refine ⟨_, hF, rfl, [.br false, .br false, .fork [] [.fork [] []]], ?_⟩
    show run [] Try.prog _ [.int .i64 m, .int .i64 n] [] _ _
    rw [cmpz_run]
    simp only [decide_eq_true_eq, decide_eq_false_iff_not]
    refine ⟨by simp, by simp, fun h => ?_, fun h => ⟨fun h2 => ?_, fun h2 => ?_⟩⟩
    all_goals
      congr 1
      unfold cmpZ
    · rw [if_pos h]
    · rw [if_neg h, if_pos (by omega)]
    · rw [if_neg h, if_neg (by omega)]
  · exact hF.elim


theorem or4_run (a b c d : Int) (r : AV) : run [] Try.prog 51 [.vsl 0 0 4] [some ⟨false, 3, 1, true, [.int .i64 a, .int .i64 b, .int .i64 c, .int .i64 d]⟩] [.loop 5, .br true, .cell (.int .i64 a), .fork [] [.br true, .cell (.int .i64 b), .fork [] [.br true, .cell (.int .i64 c), .fork [] [.br true, .cell (.int .i64 d), .fork [] [.br false]]]]] (yields (.v r)) =
    (Decidable.decide ((0 : Int) < (↑(4 : Nat) : Int)) = Bool.true ∧ ((0 : Int) ≤ (0 : Int) ∧ (0 : Int) < (↑(4 : Nat) : Int)) ∧ Go.Sx.Blk.read Go.Proofs.Try.prog (Go.Sx.Blk.mk Bool.false (3 : Go.TypeId) (1 : Nat) Bool.true [Go.Sx.AV.int Go.IntKind.i64 a, Go.Sx.AV.int Go.IntKind.i64 b, Go.Sx.AV.int Go.IntKind.i64 c, Go.Sx.AV.int Go.IntKind.i64 d]) (3 : Nat) ((0 : Nat) + Int.toNat (0 : Int)) (0 : Nat) = Option.some (Go.Sx.AV.int Go.IntKind.i64 a) ∧ ((a != (0 : Int)) = Bool.true → Go.Sx.AV.int Go.IntKind.i64 a = r) ∧ ((a != (0 : Int)) = Bool.false → Decidable.decide ((1 : Int) < (↑(4 : Nat) : Int)) = Bool.true ∧ ((0 : Int) ≤ (1 : Int) ∧ (1 : Int) < (↑(4 : Nat) : Int)) ∧ Go.Sx.Blk.read Go.Proofs.Try.prog (Go.Sx.Blk.mk Bool.false (3 : Go.TypeId) (1 : Nat) Bool.true [Go.Sx.AV.int Go.IntKind.i64 a, Go.Sx.AV.int Go.IntKind.i64 b, Go.Sx.AV.int Go.IntKind.i64 c, Go.Sx.AV.int Go.IntKind.i64 d]) (3 : Nat) ((0 : Nat) + Int.toNat (1 : Int)) (0 : Nat) = Option.some (Go.Sx.AV.int Go.IntKind.i64 b) ∧ ((b != (0 : Int)) = Bool.true → Go.Sx.AV.int Go.IntKind.i64 b = r) ∧ ((b != (0 : Int)) = Bool.false → Decidable.decide ((2 : Int) < (↑(4 : Nat) : Int)) = Bool.true ∧ ((0 : Int) ≤ (2 : Int) ∧ (2 : Int) < (↑(4 : Nat) : Int)) ∧ Go.Sx.Blk.read Go.Proofs.Try.prog (Go.Sx.Blk.mk Bool.false (3 : Go.TypeId) (1 : Nat) Bool.true [Go.Sx.AV.int Go.IntKind.i64 a, Go.Sx.AV.int Go.IntKind.i64 b, Go.Sx.AV.int Go.IntKind.i64 c, Go.Sx.AV.int Go.IntKind.i64 d]) (3 : Nat) ((0 : Nat) + Int.toNat (2 : Int)) (0 : Nat) = Option.some (Go.Sx.AV.int Go.IntKind.i64 c) ∧ ((c != (0 : Int)) = Bool.true → Go.Sx.AV.int Go.IntKind.i64 c = r) ∧ ((c != (0 : Int)) = Bool.false → Decidable.decide ((3 : Int) < (↑(4 : Nat) : Int)) = Bool.true ∧ ((0 : Int) ≤ (3 : Int) ∧ (3 : Int) < (↑(4 : Nat) : Int)) ∧ Go.Sx.Blk.read Go.Proofs.Try.prog (Go.Sx.Blk.mk Bool.false (3 : Go.TypeId) (1 : Nat) Bool.true [Go.Sx.AV.int Go.IntKind.i64 a, Go.Sx.AV.int Go.IntKind.i64 b, Go.Sx.AV.int Go.IntKind.i64 c, Go.Sx.AV.int Go.IntKind.i64 d]) (3 : Nat) ((0 : Nat) + Int.toNat (3 : Int)) (0 : Nat) = Option.some (Go.Sx.AV.int Go.IntKind.i64 d) ∧ ((d != (0 : Int)) = Bool.true → Go.Sx.AV.int Go.IntKind.i64 d = r) ∧ ((d != (0 : Int)) = Bool.false → Decidable.decide ((4 : Int) < (↑(4 : Nat) : Int)) = Bool.false ∧ Go.Sx.AV.int Go.IntKind.i64 (0 : Int) = r))))) := by kernel_rfl

theorem or4_ok : SpecOK Try.prog 51 (genSpec [pInt] or4F) := by
  refine genSpec_ok none_ok fun l R hF => ?_
  unfold or4F at hF
  split at hF
  · rename_i a b c d
    refine ⟨_, hF, rfl, [.loop 5, .br true, .cell (.int .i64 a), .fork [] [.br true, .cell (.int .i64 b), .fork [] [.br true, .cell (.int .i64 c), .fork [] [.br true, .cell (.int .i64 d), .fork [] [.br false]]]]], ?_⟩
    show run [] Try.prog _ [.vsl 0 0 4] [some ⟨false, 3, 1, true, [.int .i64 a, .int .i64 b, .int .i64 c, .int .i64 d]⟩] _ _
    rw [or4_run]
    refine ⟨by decide, by decide, by kernel_rfl, fun h => ?_, fun h => ⟨by decide, by decide, by kernel_rfl, fun h2 => ?_, fun h2 => ⟨by decide, by decide, by kernel_rfl, fun h3 => ?_, fun h3 => ⟨by decide, by decide, by kernel_rfl, fun h4 => ?_, fun h4 => ⟨by decide, ?_⟩⟩⟩⟩⟩
    all_goals
      congr 1
      unfold orZ
      simp only [bne_iff_ne, ne_eq, bne_eq_false_iff_eq] at *
    · rw [if_neg h]
    · rw [if_pos h, if_neg h2]
    · rw [if_pos h, if_pos h2, if_neg h3]
    · rw [if_pos h, if_pos h2, if_pos h3]
    · rw [if_pos h, if_pos h2, if_pos h3, h4]
  · exact hF.elim


noncomputable def erightCs : List (FuncId × Sx.Spec) := [(39, genSpec [none] wrightF)]

theorem eright_run (v w m n : BitVec 64) (k j : Int) (r : AV) : run erightCs Try.prog 15 [.agg [.w64 v, .w64 w, .w64 m, .w64 n, .int .i64 k, .int .i64 j]] [] [.fork [.fork [.fork [.fork [] []] []] []] []] (yields (.v r)) =
    (((v &&& m == v && w &&& n == w) = Bool.true → (Decidable.decide ((0 : Int) ≤ k) = Bool.true → (Decidable.decide (k ≤ (128 : Int)) = Bool.true → (Decidable.decide ((1 : Int) ≤ j) = Bool.true → Go.Sx.AV.bool (Decidable.decide (j ≤ (255 : Int))) = r) ∧ (Decidable.decide ((1 : Int) ≤ j) = Bool.false → Go.Sx.AV.bool Bool.false = r)) ∧ (Decidable.decide (k ≤ (128 : Int)) = Bool.false → Go.Sx.AV.bool Bool.false = r)) ∧ (Decidable.decide ((0 : Int) ≤ k) = Bool.false → Go.Sx.AV.bool Bool.false = r)) ∧ ((v &&& m == v && w &&& n == w) = Bool.false → Go.Sx.AV.bool Bool.false = r)) := by kernel_rfl

theorem erightCs_ok : ∀ e ∈ erightCs, SpecOK Try.prog e.1 e.2 := by
  intro e he
  simp only [erightCs, List.mem_cons, List.not_mem_nil, or_false] at he
  rcases he with rfl
  · exact wright_ok

theorem eright_ok : SpecOK Try.prog 15 (genSpec [none] erightF) := by
  refine genSpec_ok (run_ok (l := erightCs) erightCs_ok mixed noNG) fun l R hF => ?_
  unfold erightF at hF
  split at hF
  · rename_i v w m n k j
    refine ⟨_, hF, rfl, [.fork [.fork [.fork [.fork [] []] []] []] []], ?_⟩
    show run erightCs Try.prog _ [.agg [.w64 v, .w64 w, .w64 m, .w64 n, .int .i64 k, .int .i64 j]] [] _ _
    rw [eright_run]
    refine ⟨fun h => ⟨fun h1 => ⟨fun h2 => ⟨fun h3 => ?_, fun h3 => ?_⟩, fun h2 => ?_⟩, fun h1 => ?_⟩, fun h => ?_⟩
    · rw [show rtE ⟨v, w, m, n, k, j⟩ = ((v &&& m == v && w &&& n == w) && (decide (0 ≤ k) && (decide (k ≤ 128) && (decide (1 ≤ j) && decide (j ≤ 255))))) from rfl, h, h1, h2, h3]; rfl
    · rw [show rtE ⟨v, w, m, n, k, j⟩ = ((v &&& m == v && w &&& n == w) && (decide (0 ≤ k) && (decide (k ≤ 128) && (decide (1 ≤ j) && decide (j ≤ 255))))) from rfl, h, h1, h2, h3]; rfl
    · rw [show rtE ⟨v, w, m, n, k, j⟩ = ((v &&& m == v && w &&& n == w) && (decide (0 ≤ k) && (decide (k ≤ 128) && (decide (1 ≤ j) && decide (j ≤ 255))))) from rfl, h, h1, h2]; rfl
    · rw [show rtE ⟨v, w, m, n, k, j⟩ = ((v &&& m == v && w &&& n == w) && (decide (0 ≤ k) && (decide (k ≤ 128) && (decide (1 ≤ j) && decide (j ≤ 255))))) from rfl, h, h1]; rfl
    · rw [show rtE ⟨v, w, m, n, k, j⟩ = ((v &&& m == v && w &&& n == w) && (decide (0 ≤ k) && (decide (k ≤ 128) && (decide (1 ≤ j) && decide (j ≤ 255))))) from rfl, h]; rfl
  · exact hF.elim


noncomputable def eofCs : List (FuncId × Sx.Spec) := [(37, genSpec [none, none] makeF),
  (38, genSpec [none] wofF)]

theorem eof_run (a b : BitVec 64) (k j : Int) (r : AV) : run eofCs Try.prog 13 [.agg [.w64 a, .w64 b, .int .i64 k], .int .i64 j] [] [] (yields (.v r)) =
    (Go.Sx.AV.agg [Go.Sx.AV.w64 (a &&& Go.Proofs.Ytbhbokhdkapkpaa.L1.mkW k &&& Go.Proofs.Ytbhbokhdkapkpaa.L1.mkW (Go.Proofs.Ytbhbokhdkapkpaa.L1.clamp k)), Go.Sx.AV.w64 (b &&& Go.Proofs.Ytbhbokhdkapkpaa.L1.mkW (k - (64 : Int)) &&& Go.Proofs.Ytbhbokhdkapkpaa.L1.mkW (Go.Proofs.Ytbhbokhdkapkpaa.L1.clamp k - (64 : Int))), Go.Sx.AV.w64 (Go.Proofs.Ytbhbokhdkapkpaa.L1.mkW (Go.Proofs.Ytbhbokhdkapkpaa.L1.clamp k)), Go.Sx.AV.w64 (Go.Proofs.Ytbhbokhdkapkpaa.L1.mkW (Go.Proofs.Ytbhbokhdkapkpaa.L1.clamp k - (64 : Int))), Go.Sx.AV.int Go.IntKind.i64 (Go.Proofs.Ytbhbokhdkapkpaa.L1.clamp k), Go.Sx.AV.int Go.IntKind.i64 j] = r) := by kernel_rfl

theorem eofCs_ok : ∀ e ∈ eofCs, SpecOK Try.prog e.1 e.2 := by
  intro e he
  simp only [eofCs, List.mem_cons, List.not_mem_nil, or_false] at he
  rcases he with rfl | rfl
  · exact pmake_ok
  · exact wof_ok

theorem eof_ok : SpecOK Try.prog 13 (genSpec [none, none] eofF) := by
  refine genSpec_ok (run_ok (l := eofCs) eofCs_ok mixed noNG) fun l R hF => ?_
  unfold eofF at hF
  split at hF
  · rename_i a b k j
    refine ⟨_, hF, rfl, [], ?_⟩
    show run eofCs Try.prog _ [.agg [.w64 a, .w64 b, .int .i64 k], .int .i64 j] [] _ _
    rw [eof_run]
    rw [(mkW_clamp k).1, (mkW_clamp k).2, BitVec.and_assoc, BitVec.and_self, BitVec.and_assoc, BitVec.and_self]
  · exact hF.elim


noncomputable def eaboveCs : List (FuncId × Sx.Spec) := [(40, genSpec [none, none] wmeetF)]

theorem eabove_run (v w m n : BitVec 64) (k j : Int) (c d p q : BitVec 64) (s t : Int) (r : AV) : run eaboveCs Try.prog 16 [.agg [.w64 v, .w64 w, .w64 m, .w64 n, .int .i64 k, .int .i64 j], .agg [.w64 c, .w64 d, .w64 p, .w64 q, .int .i64 s, .int .i64 t]] [] [.fork [] []] (yields (.v r)) =
    ((Decidable.decide (k > s) = Bool.true → Go.Sx.AV.bool (Go.Sx.M.wtB v w m n c d p q) = r) ∧ (Decidable.decide (k > s) = Bool.false → Go.Sx.AV.bool Bool.false = r)) := by kernel_rfl

theorem eaboveCs_ok : ∀ e ∈ eaboveCs, SpecOK Try.prog e.1 e.2 := by
  intro e he
  simp only [eaboveCs, List.mem_cons, List.not_mem_nil, or_false] at he
  rcases he with rfl
  · exact wmeet_ok

theorem eabove_ok : SpecOK Try.prog 16 (genSpec [none, none] raboveF) := by
  refine genSpec_ok (run_ok (l := eaboveCs) eaboveCs_ok mixed noNG) fun l R hF => ?_
  unfold raboveF at hF
  split at hF
  · rename_i v w m n k j c d p q s t
    refine ⟨_, hF, rfl, [.fork [] []], ?_⟩
    show run eaboveCs Try.prog _ [.agg [.w64 v, .w64 w, .w64 m, .w64 n, .int .i64 k, .int .i64 j], .agg [.w64 c, .w64 d, .w64 p, .w64 q, .int .i64 s, .int .i64 t]] [] _ _
    rw [eabove_run]
    unfold abE
    refine ⟨fun h => ?_, fun h => ?_⟩
    · rw [show decide (k > s) = true from h, Bool.true_and]; rfl
    · rw [show decide (k > s) = false from h, Bool.false_and]
  · exact hF.elim


theorem ealike_run (v w m n : BitVec 64) (k j : Int) (c d p q : BitVec 64) (s t : Int) (r : AV) : run [] Try.prog 19 [.agg [.w64 v, .w64 w, .w64 m, .w64 n, .int .i64 k, .int .i64 j], .agg [.w64 c, .w64 d, .w64 p, .w64 q, .int .i64 s, .int .i64 t]] [] [.fork [] []] (yields (.v r)) =
    ((Go.Sx.andAll [Go.Sx.andAll [v == c, w == d], Go.Sx.andAll [m == p, n == q]] = Bool.true → Go.Sx.AV.bool (k == s) = r) ∧ (Go.Sx.andAll [Go.Sx.andAll [v == c, w == d], Go.Sx.andAll [m == p, n == q]] = Bool.false → Go.Sx.AV.bool Bool.false = r)) := by kernel_rfl

theorem ealike_ok : SpecOK Try.prog 19 (genSpec [none, none] ealikeF) := by
  refine genSpec_ok none_ok fun l R hF => ?_
  unfold ealikeF at hF
  split at hF
  · rename_i v w m n k j c d p q s t
    refine ⟨_, hF, rfl, [.fork [] []], ?_⟩
    show run [] Try.prog _ [.agg [.w64 v, .w64 w, .w64 m, .w64 n, .int .i64 k, .int .i64 j], .agg [.w64 c, .w64 d, .w64 p, .w64 q, .int .i64 s, .int .i64 t]] [] _ _
    rw [ealike_run]
    refine ⟨fun h => ?_, fun h => ?_⟩
    · unfold alE
      rw [show (v == c && w == d && (m == p && n == q)) = true from h, Bool.true_and]
    · unfold alE
      rw [show (v == c && w == d && (m == p && n == q)) = false from h, Bool.false_and]
  · exact hF.elim


noncomputable def efirstCs : List (FuncId × Sx.Spec) := [(45, genSpec [none, none] wmatchF)]

theorem efirst_run (l : List En) (a b : BitVec 64) (r : AV) : run efirstCs Try.prog 22 [.vsl 0 0 (l.map enE).length, .agg [.w64 a, .w64 b]] [some ⟨false, (pEn.getD (0, 0)).1, (pEn.getD (0, 0)).2, true, (l.map enE)⟩] (efH l a b) (yields (.v r)) =
    ((Go.Sx.St.mk [Go.Sx.AV.vsl (0 : Nat) (0 : Nat) (List.length (List.map Go.Proofs.Ytbhbokhdkapkpaa.L1.enE l)), Go.Sx.AV.func (Go.Fn.func (44 : Nat)) [] [Go.Sx.AV.ptr ((0 : Nat) + (1 : Nat)) (0 : Nat) (0 : Nat) Bool.true], Go.Sx.AV.any, Go.Sx.AV.any, Go.Sx.AV.any, Go.Sx.AV.any, Go.Sx.AV.any, Go.Sx.AV.int Go.IntKind.i64 (↑(List.length (List.map Go.Proofs.Ytbhbokhdkapkpaa.L1.enE l)) : Int), Go.Sx.AV.int Go.IntKind.i64 (0 : Int), Go.Sx.AV.any, Go.Sx.AV.any, Go.Sx.AV.any, Go.Sx.AV.any, Go.Sx.AV.any, Go.Sx.AV.any, Go.Sx.AV.any, Go.Sx.AV.any, Go.Sx.AV.any, Go.Sx.AV.any] [Option.some (Go.Sx.Blk.mk Bool.false (nat_lit 28) (6 : Nat) Bool.true (List.map Go.Proofs.Ytbhbokhdkapkpaa.L1.enE l)), Option.some (Go.Sx.Blk.mk Bool.true (24 : Nat) (2 : Nat) Bool.true [Go.Sx.AV.agg [Go.Sx.AV.w64 a, Go.Sx.AV.w64 b]])] = Go.Proofs.Ytbhbokhdkapkpaa.L1.efSt l a b (0 : Nat) ∧ Go.Proofs.Ytbhbokhdkapkpaa.L1.rfI l a b (0 : Nat)) ∧ ∀ (p : Nat), Go.Proofs.Ytbhbokhdkapkpaa.L1.rfI l a b p → (Decidable.decide ((↑p : Int) < (↑(List.length (List.map Go.Proofs.Ytbhbokhdkapkpaa.L1.enE l)) : Int)) = Bool.true → ((0 : Int) ≤ (↑p : Int) ∧ (↑p : Int) < (↑(List.length (List.map Go.Proofs.Ytbhbokhdkapkpaa.L1.enE l)) : Int)) ∧ Go.Sx.Blk.read Go.Proofs.Try.prog (Go.Sx.Blk.mk Bool.false (28 : Go.TypeId) (6 : Nat) Bool.true (List.map Go.Proofs.Ytbhbokhdkapkpaa.L1.enE l)) (28 : Nat) ((0 : Nat) + Int.toNat (↑p : Int)) (0 : Nat) = Option.some (Go.Sx.AV.agg [Go.Sx.AV.w64 (Go.Sx.M.at' l p).1, Go.Sx.AV.w64 (Go.Sx.M.at' l p).2, Go.Sx.AV.w64 (Go.Sx.M.at' l p).3, Go.Sx.AV.w64 (Go.Sx.M.at' l p).4, Go.Sx.AV.int Go.IntKind.i64 (Go.Sx.M.at' l p).5, Go.Sx.AV.int Go.IntKind.i64 (Go.Sx.M.at' l p).6]) ∧ (Go.Sx.M.wmB (Go.Sx.M.En.v (Go.Sx.M.at' l p)) (Go.Sx.M.En.w (Go.Sx.M.at' l p)) (Go.Sx.M.En.m (Go.Sx.M.at' l p)) (Go.Sx.M.En.n (Go.Sx.M.at' l p)) a b = Bool.true → Go.Sx.AV.tuple [Go.Sx.AV.int Go.IntKind.i64 (if (0 : Int) > (↑p : Int) then (0 : Int) else (↑p : Int)), Go.Sx.AV.bool (Decidable.decide ((↑p : Int) ≥ (0 : Int)))] = r) ∧ (Go.Sx.M.wmB (Go.Sx.M.En.v (Go.Sx.M.at' l p)) (Go.Sx.M.En.w (Go.Sx.M.at' l p)) (Go.Sx.M.En.m (Go.Sx.M.at' l p)) (Go.Sx.M.En.n (Go.Sx.M.at' l p)) a b = Bool.false → Go.Sx.inRange Go.IntKind.i64 ((↑p : Int) + (1 : Int)) ∧ ∃ (p' : Nat), Go.Sx.St.mk [Go.Sx.AV.vsl (0 : Nat) (0 : Nat) (List.length (List.map Go.Proofs.Ytbhbokhdkapkpaa.L1.enE l)), Go.Sx.AV.func (Go.Fn.func (44 : Go.FuncId)) [] [Go.Sx.AV.ptr ((0 : Nat) + (1 : Nat)) (0 : Nat) (0 : Nat) Bool.true], Go.Sx.AV.any, Go.Sx.AV.any, Go.Sx.AV.any, Go.Sx.AV.any, Go.Sx.AV.any, Go.Sx.AV.int Go.IntKind.i64 (↑(List.length (List.map Go.Proofs.Ytbhbokhdkapkpaa.L1.enE l)) : Int), Go.Sx.AV.int Go.IntKind.i64 ((↑p : Int) + (1 : Int)), Go.Sx.AV.any, Go.Sx.AV.any, Go.Sx.AV.any, Go.Sx.AV.any, Go.Sx.AV.any, Go.Sx.AV.any, Go.Sx.AV.any, Go.Sx.AV.any, Go.Sx.AV.any, Go.Sx.AV.any] [Option.some (Go.Sx.Blk.mk Bool.false (28 : Go.TypeId) (6 : Nat) Bool.true (List.map Go.Proofs.Ytbhbokhdkapkpaa.L1.enE l)), Option.some (Go.Sx.Blk.mk Bool.true (24 : Go.TypeId) (2 : Nat) Bool.true [Go.Sx.AV.agg [Go.Sx.AV.w64 a, Go.Sx.AV.w64 b]])] = Go.Proofs.Ytbhbokhdkapkpaa.L1.efSt l a b p' ∧ Go.Proofs.Ytbhbokhdkapkpaa.L1.rfI l a b p' ∧ List.length l + (1 : Nat) - p' < List.length l + (1 : Nat) - p)) ∧ (Decidable.decide ((↑p : Int) < (↑(List.length (List.map Go.Proofs.Ytbhbokhdkapkpaa.L1.enE l)) : Int)) = Bool.false → Go.Sx.AV.tuple [Go.Sx.AV.int Go.IntKind.i64 (if (0 : Int) > (-1 : Int) then (0 : Int) else (-1 : Int)), Go.Sx.AV.bool (Decidable.decide ((-1 : Int) ≥ (0 : Int)))] = r)) := by kernel_rfl

theorem efirstCs_ok : ∀ e ∈ efirstCs, SpecOK Try.prog e.1 e.2 := by
  intro e he
  simp only [efirstCs, List.mem_cons, List.not_mem_nil, or_false] at he
  rcases he with rfl
  · exact wmatch_ok

theorem efirst_ok : SpecOK Try.prog 22 (genSpec [pEn, none] efirstF) := by
  refine genSpec_ok (run_ok (l := efirstCs) efirstCs_ok mixed noNG) fun l R hF => ?_
  unfold efirstF at hF
  split at hF
  · rename_i r_l a b
    obtain ⟨hr_l, hl, hF⟩ := hF
    generalize deE r_l = l at hr_l hl hF
    subst hr_l
    refine ⟨_, hF, rfl, (efH l a b), ?_⟩
    show run efirstCs Try.prog _ [.vsl 0 0 (l.map enE).length, .agg [.w64 a, .w64 b]] [some ⟨false, (pEn.getD (0, 0)).1, (pEn.getD (0, 0)).2, true, (l.map enE)⟩] _ _
    rw [efirst_run]
    refine ⟨⟨rfl, by omega, fun j hj => by omega⟩, ?_⟩
    rintro p ⟨h1, h2⟩
    refine ⟨fun hlt => ?_, fun hge => ?_⟩
    · have hp : p < l.length := by simp only [decide_eq_true_eq, List.length_map] at hlt; omega
      have B : 0 ≤ (p : Int) ∧ (p : Int) < ((l.map enE).length : Int) := by rw [List.length_map]; omega
      refine ⟨B, read_rows B.1 B.2 (en_whole _), fun hm => ?_, fun hm => ⟨inR (by omega) (by omega), p + 1, rfl, ⟨by omega, up h2 hm⟩, by omega⟩⟩
      rw [show fsI l a b = p from (fsI_spec l a b).uniq (.inr ⟨p, rfl, hp, hm, h2⟩)]
      rfl
    · have hp : p = l.length := by simp only [decide_eq_false_iff_not, List.length_map] at hge; omega
      subst hp
      rw [show fsI l a b = -1 from (fsI_spec l a b).uniq (.inl ⟨rfl, h2⟩)]
      rfl
  · exact hF.elim


noncomputable def ebestCs : List (FuncId × Sx.Spec) := [(45, genSpec [none, none] wmatchF)]

theorem ebest_run (l : List En) (a b : BitVec 64) (r : AV) : run ebestCs Try.prog 23 [.vsl 0 0 (l.map enE).length, .agg [.w64 a, .w64 b]] [some ⟨false, (pEn.getD (0, 0)).1, (pEn.getD (0, 0)).2, true, (l.map enE)⟩] (ebH l a b) (yields (.v r)) =
    ((Go.Sx.St.mk [Go.Sx.AV.vsl (0 : Nat) (0 : Nat) (List.length (List.map Go.Proofs.Ytbhbokhdkapkpaa.L1.enE l)), Go.Sx.AV.any, Go.Sx.AV.any, Go.Sx.AV.ptr ((0 : Nat) + (1 : Nat)) (0 : Nat) (0 : Nat) Bool.true, Go.Sx.AV.any, Go.Sx.AV.any, Go.Sx.AV.int Go.IntKind.i64 (0 : Int), Go.Sx.AV.bool Bool.false, Go.Sx.AV.any, Go.Sx.AV.any, Go.Sx.AV.any, Go.Sx.AV.vsl (0 : Nat) (0 : Nat) (List.length (List.map Go.Proofs.Ytbhbokhdkapkpaa.L1.enE l)), Go.Sx.AV.int Go.IntKind.i64 (↑(List.length (List.map Go.Proofs.Ytbhbokhdkapkpaa.L1.enE l)) : Int), Go.Sx.AV.int Go.IntKind.i64 (0 : Int), Go.Sx.AV.any, Go.Sx.AV.any, Go.Sx.AV.any, Go.Sx.AV.any, Go.Sx.AV.any, Go.Sx.AV.any, Go.Sx.AV.any, Go.Sx.AV.any, Go.Sx.AV.any, Go.Sx.AV.any, Go.Sx.AV.any, Go.Sx.AV.any, Go.Sx.AV.any, Go.Sx.AV.any, Go.Sx.AV.any, Go.Sx.AV.any, Go.Sx.AV.any, Go.Sx.AV.any, Go.Sx.AV.any, Go.Sx.AV.any, Go.Sx.AV.any, Go.Sx.AV.any, Go.Sx.AV.any, Go.Sx.AV.any, Go.Sx.AV.any, Go.Sx.AV.any, Go.Sx.AV.any] [Option.some (Go.Sx.Blk.mk Bool.false (nat_lit 28) (6 : Nat) Bool.true (List.map Go.Proofs.Ytbhbokhdkapkpaa.L1.enE l)), Option.some (Go.Sx.Blk.mk Bool.true (24 : Nat) (2 : Nat) Bool.true [Go.Sx.AV.agg [Go.Sx.AV.w64 a, Go.Sx.AV.w64 b]])] = Go.Proofs.Ytbhbokhdkapkpaa.L1.ebSt l a b (0 : Nat) ∧ Nat.le (0 : Nat) (List.length l)) ∧ ∀ (p : Nat), p ≤ List.length l → (Decidable.decide ((↑p : Int) < (↑(List.length (List.map Go.Proofs.Ytbhbokhdkapkpaa.L1.enE l)) : Int)) = Bool.true → ((0 : Int) ≤ (↑p : Int) ∧ (↑p : Int) < (↑(List.length (List.map Go.Proofs.Ytbhbokhdkapkpaa.L1.enE l)) : Int)) ∧ Go.Sx.Blk.read Go.Proofs.Try.prog (Go.Sx.Blk.mk Bool.false (28 : Go.TypeId) (6 : Nat) Bool.true (List.map Go.Proofs.Ytbhbokhdkapkpaa.L1.enE l)) (28 : Nat) ((0 : Nat) + Int.toNat (↑p : Int)) (0 : Nat) = Option.some (Go.Sx.AV.agg [Go.Sx.AV.w64 (Go.Sx.M.at' l p).1, Go.Sx.AV.w64 (Go.Sx.M.at' l p).2, Go.Sx.AV.w64 (Go.Sx.M.at' l p).3, Go.Sx.AV.w64 (Go.Sx.M.at' l p).4, Go.Sx.AV.int Go.IntKind.i64 (Go.Sx.M.at' l p).5, Go.Sx.AV.int Go.IntKind.i64 (Go.Sx.M.at' l p).6]) ∧ ((!Decidable.decide (Go.Sx.M.fbG l a b p ≥ (0 : Int))) = Bool.true → (Go.Sx.M.wmB (Go.Sx.M.En.v (Go.Sx.M.at' l p)) (Go.Sx.M.En.w (Go.Sx.M.at' l p)) (Go.Sx.M.En.m (Go.Sx.M.at' l p)) (Go.Sx.M.En.n (Go.Sx.M.at' l p)) a b = Bool.true → Go.Sx.inRange Go.IntKind.i64 ((↑p : Int) + (1 : Int)) ∧ ∃ (p' : Nat), Go.Sx.St.mk [Go.Sx.AV.vsl (0 : Nat) (0 : Nat) (List.length (List.map Go.Proofs.Ytbhbokhdkapkpaa.L1.enE l)), Go.Sx.AV.any, Go.Sx.AV.any, Go.Sx.AV.ptr ((0 : Nat) + (1 : Nat)) (0 : Nat) (0 : Nat) Bool.true, Go.Sx.AV.any, Go.Sx.AV.any, Go.Sx.AV.int Go.IntKind.i64 (↑p : Int), Go.Sx.AV.bool Bool.true, Go.Sx.AV.any, Go.Sx.AV.any, Go.Sx.AV.any, Go.Sx.AV.vsl (0 : Nat) (0 : Nat) (List.length (List.map Go.Proofs.Ytbhbokhdkapkpaa.L1.enE l)), Go.Sx.AV.int Go.IntKind.i64 (↑(List.length (List.map Go.Proofs.Ytbhbokhdkapkpaa.L1.enE l)) : Int), Go.Sx.AV.int Go.IntKind.i64 ((↑p : Int) + (1 : Int)), Go.Sx.AV.any, Go.Sx.AV.any, Go.Sx.AV.any, Go.Sx.AV.any, Go.Sx.AV.any, Go.Sx.AV.any, Go.Sx.AV.any, Go.Sx.AV.any, Go.Sx.AV.any, Go.Sx.AV.any, Go.Sx.AV.any, Go.Sx.AV.any, Go.Sx.AV.any, Go.Sx.AV.any, Go.Sx.AV.any, Go.Sx.AV.any, Go.Sx.AV.any, Go.Sx.AV.any, Go.Sx.AV.any, Go.Sx.AV.any, Go.Sx.AV.any, Go.Sx.AV.any, Go.Sx.AV.any, Go.Sx.AV.any, Go.Sx.AV.any, Go.Sx.AV.any, Go.Sx.AV.any] [Option.some (Go.Sx.Blk.mk Bool.false (28 : Go.TypeId) (6 : Nat) Bool.true (List.map Go.Proofs.Ytbhbokhdkapkpaa.L1.enE l)), Option.some (Go.Sx.Blk.mk Bool.true (24 : Go.TypeId) (2 : Nat) Bool.true [Go.Sx.AV.agg [Go.Sx.AV.w64 a, Go.Sx.AV.w64 b]])] = Go.Proofs.Ytbhbokhdkapkpaa.L1.ebSt l a b p' ∧ Nat.le p' (List.length l) ∧ List.length l + (1 : Nat) - p' < List.length l + (1 : Nat) - p) ∧ (Go.Sx.M.wmB (Go.Sx.M.En.v (Go.Sx.M.at' l p)) (Go.Sx.M.En.w (Go.Sx.M.at' l p)) (Go.Sx.M.En.m (Go.Sx.M.at' l p)) (Go.Sx.M.En.n (Go.Sx.M.at' l p)) a b = Bool.false → Go.Sx.inRange Go.IntKind.i64 ((↑p : Int) + (1 : Int)) ∧ ∃ (p' : Nat), Go.Sx.St.mk [Go.Sx.AV.vsl (0 : Nat) (0 : Nat) (List.length (List.map Go.Proofs.Ytbhbokhdkapkpaa.L1.enE l)), Go.Sx.AV.any, Go.Sx.AV.any, Go.Sx.AV.ptr ((0 : Nat) + (1 : Nat)) (0 : Nat) (0 : Nat) Bool.true, Go.Sx.AV.any, Go.Sx.AV.any, Go.Sx.AV.int Go.IntKind.i64 (Go.Sx.M.mx0 (Go.Sx.M.fbG l a b p)), Go.Sx.AV.bool (Decidable.decide (Go.Sx.M.fbG l a b p ≥ (0 : Int))), Go.Sx.AV.any, Go.Sx.AV.any, Go.Sx.AV.any, Go.Sx.AV.vsl (0 : Nat) (0 : Nat) (List.length (List.map Go.Proofs.Ytbhbokhdkapkpaa.L1.enE l)), Go.Sx.AV.int Go.IntKind.i64 (↑(List.length (List.map Go.Proofs.Ytbhbokhdkapkpaa.L1.enE l)) : Int), Go.Sx.AV.int Go.IntKind.i64 ((↑p : Int) + (1 : Int)), Go.Sx.AV.any, Go.Sx.AV.any, Go.Sx.AV.any, Go.Sx.AV.any, Go.Sx.AV.any, Go.Sx.AV.any, Go.Sx.AV.any, Go.Sx.AV.any, Go.Sx.AV.any, Go.Sx.AV.any, Go.Sx.AV.any, Go.Sx.AV.any, Go.Sx.AV.any, Go.Sx.AV.any, Go.Sx.AV.any, Go.Sx.AV.any, Go.Sx.AV.any, Go.Sx.AV.any, Go.Sx.AV.any, Go.Sx.AV.any, Go.Sx.AV.any, Go.Sx.AV.any, Go.Sx.AV.any, Go.Sx.AV.any, Go.Sx.AV.any, Go.Sx.AV.any, Go.Sx.AV.any] [Option.some (Go.Sx.Blk.mk Bool.false (28 : Go.TypeId) (6 : Nat) Bool.true (List.map Go.Proofs.Ytbhbokhdkapkpaa.L1.enE l)), Option.some (Go.Sx.Blk.mk Bool.true (24 : Go.TypeId) (2 : Nat) Bool.true [Go.Sx.AV.agg [Go.Sx.AV.w64 a, Go.Sx.AV.w64 b]])] = Go.Proofs.Ytbhbokhdkapkpaa.L1.ebSt l a b p' ∧ Nat.le p' (List.length l) ∧ List.length l + (1 : Nat) - p' < List.length l + (1 : Nat) - p)) ∧ ((!Decidable.decide (Go.Sx.M.fbG l a b p ≥ (0 : Int))) = Bool.false → ((0 : Int) ≤ Go.Sx.M.mx0 (Go.Sx.M.fbG l a b p) ∧ Go.Sx.M.mx0 (Go.Sx.M.fbG l a b p) < (↑(List.length (List.map Go.Proofs.Ytbhbokhdkapkpaa.L1.enE l)) : Int)) ∧ Go.Sx.Blk.read Go.Proofs.Try.prog (Go.Sx.Blk.mk Bool.false (28 : Go.TypeId) (6 : Nat) Bool.true (List.map Go.Proofs.Ytbhbokhdkapkpaa.L1.enE l)) (3 : Nat) ((0 : Nat) + Int.toNat (Go.Sx.M.mx0 (Go.Sx.M.fbG l a b p))) ((0 : Nat) + (4 : Nat)) = Option.some (Go.Sx.AV.int Go.IntKind.i64 (Go.Sx.M.at' l (Int.toNat (Go.Sx.M.mx0 (Go.Sx.M.fbG l a b p)))).5) ∧ (Decidable.decide (Go.Sx.M.En.len (Go.Sx.M.at' l p) > Go.Sx.M.En.len (Go.Sx.M.at' l (Int.toNat (Go.Sx.M.mx0 (Go.Sx.M.fbG l a b p))))) = Bool.true → (Go.Sx.M.wmB (Go.Sx.M.En.v (Go.Sx.M.at' l p)) (Go.Sx.M.En.w (Go.Sx.M.at' l p)) (Go.Sx.M.En.m (Go.Sx.M.at' l p)) (Go.Sx.M.En.n (Go.Sx.M.at' l p)) a b = Bool.true → Go.Sx.inRange Go.IntKind.i64 ((↑p : Int) + (1 : Int)) ∧ ∃ (p' : Nat), Go.Sx.St.mk [Go.Sx.AV.vsl (0 : Nat) (0 : Nat) (List.length (List.map Go.Proofs.Ytbhbokhdkapkpaa.L1.enE l)), Go.Sx.AV.any, Go.Sx.AV.any, Go.Sx.AV.ptr ((0 : Nat) + (1 : Nat)) (0 : Nat) (0 : Nat) Bool.true, Go.Sx.AV.any, Go.Sx.AV.any, Go.Sx.AV.int Go.IntKind.i64 (↑p : Int), Go.Sx.AV.bool Bool.true, Go.Sx.AV.any, Go.Sx.AV.any, Go.Sx.AV.any, Go.Sx.AV.vsl (0 : Nat) (0 : Nat) (List.length (List.map Go.Proofs.Ytbhbokhdkapkpaa.L1.enE l)), Go.Sx.AV.int Go.IntKind.i64 (↑(List.length (List.map Go.Proofs.Ytbhbokhdkapkpaa.L1.enE l)) : Int), Go.Sx.AV.int Go.IntKind.i64 ((↑p : Int) + (1 : Int)), Go.Sx.AV.any, Go.Sx.AV.any, Go.Sx.AV.any, Go.Sx.AV.any, Go.Sx.AV.any, Go.Sx.AV.any, Go.Sx.AV.any, Go.Sx.AV.any, Go.Sx.AV.any, Go.Sx.AV.any, Go.Sx.AV.any, Go.Sx.AV.any, Go.Sx.AV.any, Go.Sx.AV.any, Go.Sx.AV.any, Go.Sx.AV.any, Go.Sx.AV.any, Go.Sx.AV.any, Go.Sx.AV.any, Go.Sx.AV.any, Go.Sx.AV.any, Go.Sx.AV.any, Go.Sx.AV.any, Go.Sx.AV.any, Go.Sx.AV.any, Go.Sx.AV.any, Go.Sx.AV.any] [Option.some (Go.Sx.Blk.mk Bool.false (28 : Go.TypeId) (6 : Nat) Bool.true (List.map Go.Proofs.Ytbhbokhdkapkpaa.L1.enE l)), Option.some (Go.Sx.Blk.mk Bool.true (24 : Go.TypeId) (2 : Nat) Bool.true [Go.Sx.AV.agg [Go.Sx.AV.w64 a, Go.Sx.AV.w64 b]])] = Go.Proofs.Ytbhbokhdkapkpaa.L1.ebSt l a b p' ∧ Nat.le p' (List.length l) ∧ List.length l + (1 : Nat) - p' < List.length l + (1 : Nat) - p) ∧ (Go.Sx.M.wmB (Go.Sx.M.En.v (Go.Sx.M.at' l p)) (Go.Sx.M.En.w (Go.Sx.M.at' l p)) (Go.Sx.M.En.m (Go.Sx.M.at' l p)) (Go.Sx.M.En.n (Go.Sx.M.at' l p)) a b = Bool.false → Go.Sx.inRange Go.IntKind.i64 ((↑p : Int) + (1 : Int)) ∧ ∃ (p' : Nat), Go.Sx.St.mk [Go.Sx.AV.vsl (0 : Nat) (0 : Nat) (List.length (List.map Go.Proofs.Ytbhbokhdkapkpaa.L1.enE l)), Go.Sx.AV.any, Go.Sx.AV.any, Go.Sx.AV.ptr ((0 : Nat) + (1 : Nat)) (0 : Nat) (0 : Nat) Bool.true, Go.Sx.AV.any, Go.Sx.AV.any, Go.Sx.AV.int Go.IntKind.i64 (Go.Sx.M.mx0 (Go.Sx.M.fbG l a b p)), Go.Sx.AV.bool (Decidable.decide (Go.Sx.M.fbG l a b p ≥ (0 : Int))), Go.Sx.AV.any, Go.Sx.AV.any, Go.Sx.AV.any, Go.Sx.AV.vsl (0 : Nat) (0 : Nat) (List.length (List.map Go.Proofs.Ytbhbokhdkapkpaa.L1.enE l)), Go.Sx.AV.int Go.IntKind.i64 (↑(List.length (List.map Go.Proofs.Ytbhbokhdkapkpaa.L1.enE l)) : Int), Go.Sx.AV.int Go.IntKind.i64 ((↑p : Int) + (1 : Int)), Go.Sx.AV.any, Go.Sx.AV.any, Go.Sx.AV.any, Go.Sx.AV.any, Go.Sx.AV.any, Go.Sx.AV.any, Go.Sx.AV.any, Go.Sx.AV.any, Go.Sx.AV.any, Go.Sx.AV.any, Go.Sx.AV.any, Go.Sx.AV.any, Go.Sx.AV.any, Go.Sx.AV.any, Go.Sx.AV.any, Go.Sx.AV.any, Go.Sx.AV.any, Go.Sx.AV.any, Go.Sx.AV.any, Go.Sx.AV.any, Go.Sx.AV.any, Go.Sx.AV.any, Go.Sx.AV.any, Go.Sx.AV.any, Go.Sx.AV.any, Go.Sx.AV.any, Go.Sx.AV.any] [Option.some (Go.Sx.Blk.mk Bool.false (28 : Go.TypeId) (6 : Nat) Bool.true (List.map Go.Proofs.Ytbhbokhdkapkpaa.L1.enE l)), Option.some (Go.Sx.Blk.mk Bool.true (24 : Go.TypeId) (2 : Nat) Bool.true [Go.Sx.AV.agg [Go.Sx.AV.w64 a, Go.Sx.AV.w64 b]])] = Go.Proofs.Ytbhbokhdkapkpaa.L1.ebSt l a b p' ∧ Nat.le p' (List.length l) ∧ List.length l + (1 : Nat) - p' < List.length l + (1 : Nat) - p)) ∧ (Decidable.decide (Go.Sx.M.En.len (Go.Sx.M.at' l p) > Go.Sx.M.En.len (Go.Sx.M.at' l (Int.toNat (Go.Sx.M.mx0 (Go.Sx.M.fbG l a b p))))) = Bool.false → Go.Sx.inRange Go.IntKind.i64 ((↑p : Int) + (1 : Int)) ∧ ∃ (p' : Nat), Go.Sx.St.mk [Go.Sx.AV.vsl (0 : Nat) (0 : Nat) (List.length (List.map Go.Proofs.Ytbhbokhdkapkpaa.L1.enE l)), Go.Sx.AV.any, Go.Sx.AV.any, Go.Sx.AV.ptr ((0 : Nat) + (1 : Nat)) (0 : Nat) (0 : Nat) Bool.true, Go.Sx.AV.any, Go.Sx.AV.any, Go.Sx.AV.int Go.IntKind.i64 (Go.Sx.M.mx0 (Go.Sx.M.fbG l a b p)), Go.Sx.AV.bool (Decidable.decide (Go.Sx.M.fbG l a b p ≥ (0 : Int))), Go.Sx.AV.any, Go.Sx.AV.any, Go.Sx.AV.any, Go.Sx.AV.vsl (0 : Nat) (0 : Nat) (List.length (List.map Go.Proofs.Ytbhbokhdkapkpaa.L1.enE l)), Go.Sx.AV.int Go.IntKind.i64 (↑(List.length (List.map Go.Proofs.Ytbhbokhdkapkpaa.L1.enE l)) : Int), Go.Sx.AV.int Go.IntKind.i64 ((↑p : Int) + (1 : Int)), Go.Sx.AV.any, Go.Sx.AV.any, Go.Sx.AV.any, Go.Sx.AV.any, Go.Sx.AV.any, Go.Sx.AV.any, Go.Sx.AV.any, Go.Sx.AV.any, Go.Sx.AV.any, Go.Sx.AV.any, Go.Sx.AV.any, Go.Sx.AV.any, Go.Sx.AV.any, Go.Sx.AV.any, Go.Sx.AV.any, Go.Sx.AV.any, Go.Sx.AV.any, Go.Sx.AV.any, Go.Sx.AV.any, Go.Sx.AV.any, Go.Sx.AV.any, Go.Sx.AV.any, Go.Sx.AV.any, Go.Sx.AV.any, Go.Sx.AV.any, Go.Sx.AV.any, Go.Sx.AV.any] [Option.some (Go.Sx.Blk.mk Bool.false (28 : Go.TypeId) (6 : Nat) Bool.true (List.map Go.Proofs.Ytbhbokhdkapkpaa.L1.enE l)), Option.some (Go.Sx.Blk.mk Bool.true (24 : Go.TypeId) (2 : Nat) Bool.true [Go.Sx.AV.agg [Go.Sx.AV.w64 a, Go.Sx.AV.w64 b]])] = Go.Proofs.Ytbhbokhdkapkpaa.L1.ebSt l a b p' ∧ Nat.le p' (List.length l) ∧ List.length l + (1 : Nat) - p' < List.length l + (1 : Nat) - p))) ∧ (Decidable.decide ((↑p : Int) < (↑(List.length (List.map Go.Proofs.Ytbhbokhdkapkpaa.L1.enE l)) : Int)) = Bool.false → Go.Sx.AV.tuple [Go.Sx.AV.int Go.IntKind.i64 (Go.Sx.M.mx0 (Go.Sx.M.fbG l a b p)), Go.Sx.AV.bool (Decidable.decide (Go.Sx.M.fbG l a b p ≥ (0 : Int)))] = r)) := by kernel_rfl

theorem ebestCs_ok : ∀ e ∈ ebestCs, SpecOK Try.prog e.1 e.2 := by
  intro e he
  simp only [ebestCs, List.mem_cons, List.not_mem_nil, or_false] at he
  rcases he with rfl
  · exact wmatch_ok

theorem ebest_ok : SpecOK Try.prog 23 (genSpec [pEn, none] ebestF) := by
  refine genSpec_ok (run_ok (l := ebestCs) ebestCs_ok mixed noNG) fun l R hF => ?_
  unfold ebestF at hF
  split at hF
  · rename_i r_l a b
    obtain ⟨hr_l, hl, hF⟩ := hF
    generalize deE r_l = l at hr_l hl hF
    subst hr_l
    refine ⟨_, hF, rfl, (ebH l a b), ?_⟩
    show run ebestCs Try.prog _ [.vsl 0 0 (l.map enE).length, .agg [.w64 a, .w64 b]] [some ⟨false, (pEn.getD (0, 0)).1, (pEn.getD (0, 0)).2, true, (l.map enE)⟩] _ _
    rw [ebest_run]
    refine ⟨⟨rfl, Nat.zero_le _⟩, ?_⟩
    intro p hpl
    refine ⟨fun hlt => ?_, fun hge => ?_⟩
    · have hp : p < l.length := by simp only [decide_eq_true_eq, List.length_map] at hlt; omega
      have B : 0 ≤ (p : Int) ∧ (p : Int) < ((l.map enE).length : Int) := by rw [List.length_map]; omega
      have i1 : inRange .i64 ((p : Int) + 1) := inR (by omega) (by omega)
      have nx : ∀ (x : Int) (c : Bool), mx0 (fbG l a b (p + 1)) = x → decide (fbG l a b (p + 1) ≥ 0) = c → ∃ p', (⟨[.vsl 0 0 (l.map enE).length, .any, .any, .ptr 1 0 0 true, .any, .any, .int .i64 x, .bool c, .any, .any, .any, .vsl 0 0 (l.map enE).length, .int .i64 (l.map enE).length, .int .i64 ((p : Int) + 1), .any, .any, .any, .any, .any, .any, .any, .any, .any, .any, .any, .any, .any, .any, .any, .any, .any, .any, .any, .any, .any, .any, .any, .any, .any, .any, .any], [some ⟨false, 28, 6, true, l.map enE⟩, some ⟨true, 24, 2, true, [.agg [.w64 a, .w64 b]]⟩]⟩ : St) = ebSt l a b p' ∧ p' ≤ l.length ∧ l.length + 1 - p' < l.length + 1 - p := fun x c e1 e2 => ⟨p + 1, by subst e1; subst e2; rfl, by omega, by omega⟩
      have hs := fbG_spec l a b p
      have eg : fbG l a b (p + 1) = if (decide (fbG l a b p < 0) || decide ((at' l p).len > (at' l (fbG l a b p).toNat).len)) && mtE (at' l p) a b then (p : Int) else fbG l a b p := rfl
      have yes : (decide (fbG l a b p < 0) || decide ((at' l p).len > (at' l (fbG l a b p).toNat).len)) = true → mtE (at' l p) a b = true → mx0 (fbG l a b (p + 1)) = p ∧ decide (fbG l a b (p + 1) ≥ 0) = true := fun h1 h2 => by
        rw [eg, h1, h2, if_pos (show (true && true) = true from rfl)]
        exact ⟨mx0_of (by omega), by simp⟩
      have no : (decide (fbG l a b p < 0) || decide ((at' l p).len > (at' l (fbG l a b p).toNat).len)) = false ∨ mtE (at' l p) a b = false → fbG l a b (p + 1) = fbG l a b p := fun h => by
        rw [eg]
        rcases h with h | h <;> rw [h] <;> simp
      refine ⟨B, read_rows B.1 B.2 (en_whole _), fun hn => ⟨fun hm => ⟨i1, ?_⟩, fun hm => ⟨i1, ?_⟩⟩, fun hf => ?_⟩
      · have hn : fbG l a b p < 0 := by simp at hn; omega
        have := yes (by simp [hn]) hm
        exact nx _ _ this.1 this.2
      · have := no (.inr hm)
        exact nx _ _ (by rw [this]) (by rw [this])
      · have hf : fbG l a b p ≥ 0 := by simpa using hf
        have em : mx0 (fbG l a b p) = fbG l a b p := mx0_of hf
        have Bf : 0 ≤ mx0 (fbG l a b p) ∧ mx0 (fbG l a b p) < ((l.map enE).length : Int) := by
          rw [em, List.length_map]
          rcases hs with ⟨h, _⟩ | ⟨i, h, h3, _⟩ <;> omega
        refine ⟨Bf, read_rows Bf.1 Bf.2 (ref_len _), fun hg => ⟨fun hm => ⟨i1, ?_⟩, fun hm => ⟨i1, ?_⟩⟩, fun hg => ⟨i1, ?_⟩⟩
        · rw [em] at hg
          have := yes (by rw [hg, Bool.or_true]) hm
          exact nx _ _ this.1 this.2
        · have := no (.inr hm)
          exact nx _ _ (by rw [this]) (by rw [this])
        · rw [em] at hg
          have := no (.inl (by rw [hg, Bool.or_false]; simp; omega))
          exact nx _ _ (by rw [this]) (by rw [this])
    · have hp : p = l.length := by simp only [decide_eq_false_iff_not, List.length_map] at hge; omega
      subst hp
      rw [fbG_all]
  · exact hF.elim


noncomputable def etellCs : List (FuncId × Sx.Spec) := [(23, genSpec [pEn, none] ebestF)]

theorem etell_run (l : List En) (a b : BitVec 64) (r : AV) : run etellCs Try.prog 26 [.vsl 0 0 (l.map enE).length, .agg [.w64 a, .w64 b]] [some ⟨false, (pEn.getD (0, 0)).1, (pEn.getD (0, 0)).2, true, (l.map enE)⟩] [.fork [] [.dy, .cell (.int .i64 (at' l (mx0 (bsI l a b)).toNat).act)]] (yields (.v r)) =
    ((0 : Nat) + List.length (List.map Go.Proofs.Ytbhbokhdkapkpaa.L1.enE l) ≤ List.length (List.map Go.Proofs.Ytbhbokhdkapkpaa.L1.enE l) ∧ List.take (List.length (List.map Go.Proofs.Ytbhbokhdkapkpaa.L1.enE l)) (List.drop (0 : Nat) (List.map Go.Proofs.Ytbhbokhdkapkpaa.L1.enE l)) = List.map Go.Proofs.Ytbhbokhdkapkpaa.L1.enE (Go.Proofs.Ytbhbokhdkapkpaa.L1.deE (List.take (List.length (List.map Go.Proofs.Ytbhbokhdkapkpaa.L1.enE l)) (List.drop (0 : Nat) (List.map Go.Proofs.Ytbhbokhdkapkpaa.L1.enE l)))) ∧ List.length (Go.Proofs.Ytbhbokhdkapkpaa.L1.deE (List.take (List.length (List.map Go.Proofs.Ytbhbokhdkapkpaa.L1.enE l)) (List.drop (0 : Nat) (List.map Go.Proofs.Ytbhbokhdkapkpaa.L1.enE l)))) ≤ (9223372036854775807 : Nat) ∧ ((!Decidable.decide (Go.Sx.M.bsI (Go.Proofs.Ytbhbokhdkapkpaa.L1.deE (List.take (List.length (List.map Go.Proofs.Ytbhbokhdkapkpaa.L1.enE l)) (List.drop (0 : Nat) (Go.Sx.Blk.elems (Go.Sx.Blk.mk Bool.false (Prod.fst (Option.getD Go.Proofs.Ytbhbokhdkapkpaa.L1.pEn ((0 : Go.TypeId), (0 : Nat)))) (Prod.snd (Option.getD Go.Proofs.Ytbhbokhdkapkpaa.L1.pEn ((0 : Go.TypeId), (0 : Nat)))) Bool.true (List.map Go.Proofs.Ytbhbokhdkapkpaa.L1.enE l)))))) a b ≥ (0 : Int))) = Bool.true → Go.Sx.AV.int Go.IntKind.i64 (0 : Int) = r) ∧ ((!Decidable.decide (Go.Sx.M.bsI (Go.Proofs.Ytbhbokhdkapkpaa.L1.deE (List.take (List.length (List.map Go.Proofs.Ytbhbokhdkapkpaa.L1.enE l)) (List.drop (0 : Nat) (Go.Sx.Blk.elems (Go.Sx.Blk.mk Bool.false (Prod.fst (Option.getD Go.Proofs.Ytbhbokhdkapkpaa.L1.pEn ((0 : Go.TypeId), (0 : Nat)))) (Prod.snd (Option.getD Go.Proofs.Ytbhbokhdkapkpaa.L1.pEn ((0 : Go.TypeId), (0 : Nat)))) Bool.true (List.map Go.Proofs.Ytbhbokhdkapkpaa.L1.enE l)))))) a b ≥ (0 : Int))) = Bool.false → ((0 : Int) ≤ Go.Sx.M.mx0 (Go.Sx.M.bsI (Go.Proofs.Ytbhbokhdkapkpaa.L1.deE (List.take (List.length (List.map Go.Proofs.Ytbhbokhdkapkpaa.L1.enE l)) (List.drop (0 : Nat) (List.map Go.Proofs.Ytbhbokhdkapkpaa.L1.enE l)))) a b) ∧ Go.Sx.M.mx0 (Go.Sx.M.bsI (Go.Proofs.Ytbhbokhdkapkpaa.L1.deE (List.take (List.length (List.map Go.Proofs.Ytbhbokhdkapkpaa.L1.enE l)) (List.drop (0 : Nat) (List.map Go.Proofs.Ytbhbokhdkapkpaa.L1.enE l)))) a b) < (↑(List.length (List.map Go.Proofs.Ytbhbokhdkapkpaa.L1.enE l)) : Int)) ∧ Go.Sx.Blk.read Go.Proofs.Try.prog (Go.Sx.Blk.mk Bool.false (nat_lit 28) (6 : Nat) Bool.true (List.map Go.Proofs.Ytbhbokhdkapkpaa.L1.enE l)) (3 : Nat) ((0 : Nat) + Int.toNat (Go.Sx.M.mx0 (Go.Sx.M.bsI (Go.Proofs.Ytbhbokhdkapkpaa.L1.deE (List.take (List.length (List.map Go.Proofs.Ytbhbokhdkapkpaa.L1.enE l)) (List.drop (0 : Nat) (List.map Go.Proofs.Ytbhbokhdkapkpaa.L1.enE l)))) a b))) ((0 : Nat) + (5 : Nat)) = Option.some (Go.Sx.AV.int Go.IntKind.i64 (Go.Sx.M.at' l (Int.toNat (Go.Sx.M.mx0 (Go.Sx.M.bsI l a b)))).6) ∧ Go.Sx.AV.int Go.IntKind.i64 (Go.Sx.M.at' l (Int.toNat (Go.Sx.M.mx0 (Go.Sx.M.bsI l a b)))).6 = r)) := by kernel_rfl

theorem etellCs_ok : ∀ e ∈ etellCs, SpecOK Try.prog e.1 e.2 := by
  intro e he
  simp only [etellCs, List.mem_cons, List.not_mem_nil, or_false] at he
  rcases he with rfl
  · exact ebest_ok

theorem etell_ok : SpecOK Try.prog 26 (genSpec [pEn, none] rtellF) := by
  refine genSpec_ok (run_ok (l := etellCs) etellCs_ok mixed noNG) fun l R hF => ?_
  unfold rtellF at hF
  split at hF
  · rename_i r_l a b
    obtain ⟨hr_l, hl, hF⟩ := hF
    generalize deE r_l = l at hr_l hl hF
    subst hr_l
    refine ⟨_, hF, rfl, [.fork [] [.dy, .cell (.int .i64 (at' l (mx0 (bsI l a b)).toNat).act)]], ?_⟩
    show run etellCs Try.prog _ [.vsl 0 0 (l.map enE).length, .agg [.w64 a, .w64 b]] [some ⟨false, (pEn.getD (0, 0)).1, (pEn.getD (0, 0)).2, true, (l.map enE)⟩] _ _
    rw [etell_run]
    simp only [whole_row, deE_map]
    refine ⟨by omega, by trivial, hl, fun h => ?_, fun h => ?_⟩
    · have h : bsI l a b < 0 := by simp at h; omega
      unfold tlI
      rw [if_pos h]
    · have h : bsI l a b ≥ 0 := by simpa using h
      have em : mx0 (bsI l a b) = bsI l a b := mx0_of h
      have B : 0 ≤ mx0 (bsI l a b) ∧ mx0 (bsI l a b) < ((l.map enE).length : Int) := by
        rw [em]
        rcases bsI_spec l a b with ⟨h1, _⟩ | ⟨i, h1, _, h2, _⟩
        · omega
        · rw [h1, List.length_map]; omega
      refine ⟨B, read_rows B.1 B.2 (ref_act _), ?_⟩
      unfold tlI
      rw [if_neg (by omega), em]
  · exact hF.elim


noncomputable def eorderedCs : List (FuncId × Sx.Spec) := [(16, genSpec [none, none] raboveF)]

theorem eordered_run (l : List En) (r : AV) : run eorderedCs Try.prog 29 [.vsl 0 0 (l.map enE).length] [some ⟨false, (pEn.getD (0, 0)).1, (pEn.getD (0, 0)).2, true, (l.map enE)⟩] (eoH l) (yields (.v r)) =
    ((Go.Sx.St.mk [Go.Sx.AV.vsl (0 : Nat) (0 : Nat) (List.length (List.map Go.Proofs.Ytbhbokhdkapkpaa.L1.enE l)), Go.Sx.AV.any, Go.Sx.AV.any, Go.Sx.AV.int Go.IntKind.i64 (9223372036854775807 : Int), Go.Sx.AV.any, Go.Sx.AV.any, Go.Sx.AV.any, Go.Sx.AV.vsl (0 : Nat) (0 : Nat) (List.length (List.map Go.Proofs.Ytbhbokhdkapkpaa.L1.enE l)), Go.Sx.AV.int Go.IntKind.i64 (↑(List.length (List.map Go.Proofs.Ytbhbokhdkapkpaa.L1.enE l)) : Int), Go.Sx.AV.int Go.IntKind.i64 (0 : Int), Go.Sx.AV.any, Go.Sx.AV.any, Go.Sx.AV.any, Go.Sx.AV.any, Go.Sx.AV.any, Go.Sx.AV.any, Go.Sx.AV.any, Go.Sx.AV.any, Go.Sx.AV.any, Go.Sx.AV.any, Go.Sx.AV.any, Go.Sx.AV.any, Go.Sx.AV.any, Go.Sx.AV.any, Go.Sx.AV.any, Go.Sx.AV.any, Go.Sx.AV.any, Go.Sx.AV.any, Go.Sx.AV.any, Go.Sx.AV.any, Go.Sx.AV.any] [Option.some (Go.Sx.Blk.mk Bool.false (nat_lit 28) (6 : Nat) Bool.true (List.map Go.Proofs.Ytbhbokhdkapkpaa.L1.enE l))] = Go.Proofs.Ytbhbokhdkapkpaa.L1.eoSt l (0 : Nat) ∧ (0 : Nat) ≤ List.length l ∧ Go.Sx.M.OrTo l (0 : Nat)) ∧ ∀ (p : Nat), p ≤ List.length l ∧ Go.Sx.M.OrTo l p → (Decidable.decide ((↑p : Int) < (↑(List.length (List.map Go.Proofs.Ytbhbokhdkapkpaa.L1.enE l)) : Int)) = Bool.true → ((0 : Int) ≤ (↑p : Int) ∧ (↑p : Int) < (↑(List.length (List.map Go.Proofs.Ytbhbokhdkapkpaa.L1.enE l)) : Int)) ∧ Go.Sx.Blk.read Go.Proofs.Try.prog (Go.Sx.Blk.mk Bool.false (28 : Go.TypeId) (6 : Nat) Bool.true (List.map Go.Proofs.Ytbhbokhdkapkpaa.L1.enE l)) (28 : Nat) ((0 : Nat) + Int.toNat (↑p : Int)) (0 : Nat) = Option.some (Go.Sx.AV.agg [Go.Sx.AV.w64 (Go.Sx.M.at' l p).1, Go.Sx.AV.w64 (Go.Sx.M.at' l p).2, Go.Sx.AV.w64 (Go.Sx.M.at' l p).3, Go.Sx.AV.w64 (Go.Sx.M.at' l p).4, Go.Sx.AV.int Go.IntKind.i64 (Go.Sx.M.at' l p).5, Go.Sx.AV.int Go.IntKind.i64 (Go.Sx.M.at' l p).6]) ∧ (Decidable.decide (Go.Sx.M.En.len (Go.Sx.M.at' l p) > Go.Sx.M.mnG l p) = Bool.true → (↑p : Int) = (↑p : Int) ∧ p < List.length (List.map Go.Proofs.Ytbhbokhdkapkpaa.L1.enE l) + (1 : Nat) ∧ (Go.Sx.St.mk [Go.Sx.AV.vsl (0 : Nat) ((0 : Nat) + (0 : Nat)) (p - (0 : Nat)), Go.Sx.AV.func (Go.Fn.func (47 : Nat)) [] [Go.Sx.AV.ptr ((0 : Nat) + (1 : Nat)) (0 : Nat) (0 : Nat) Bool.true], Go.Sx.AV.any, Go.Sx.AV.any, Go.Sx.AV.any, Go.Sx.AV.any, Go.Sx.AV.any, Go.Sx.AV.int Go.IntKind.i64 (↑(p - (0 : Nat)) : Int), Go.Sx.AV.int Go.IntKind.i64 (0 : Int), Go.Sx.AV.any, Go.Sx.AV.any, Go.Sx.AV.any, Go.Sx.AV.any, Go.Sx.AV.any, Go.Sx.AV.any, Go.Sx.AV.any, Go.Sx.AV.any, Go.Sx.AV.any, Go.Sx.AV.any] [Option.some (Go.Sx.Blk.mk Bool.false (28 : Go.TypeId) (6 : Nat) Bool.true (List.map Go.Proofs.Ytbhbokhdkapkpaa.L1.enE l)), Option.some (Go.Sx.Blk.write (Go.Sx.Blk.mk Bool.true (28 : Nat) (6 : Nat) Bool.true [Go.Sx.AV.agg [Go.Sx.AV.lit (Go.Value.int Go.IntKind.u64 (0 : Int)), Go.Sx.AV.lit (Go.Value.int Go.IntKind.u64 (0 : Int)), Go.Sx.AV.lit (Go.Value.int Go.IntKind.u64 (0 : Int)), Go.Sx.AV.lit (Go.Value.int Go.IntKind.u64 (0 : Int)), Go.Sx.AV.lit (Go.Value.int Go.IntKind.i64 (0 : Int)), Go.Sx.AV.lit (Go.Value.int Go.IntKind.i64 (0 : Int))]]) (0 : Nat) (0 : Nat) (Go.Sx.AV.agg [Go.Sx.AV.w64 (Go.Sx.M.at' l p).1, Go.Sx.AV.w64 (Go.Sx.M.at' l p).2, Go.Sx.AV.w64 (Go.Sx.M.at' l p).3, Go.Sx.AV.w64 (Go.Sx.M.at' l p).4, Go.Sx.AV.int Go.IntKind.i64 (Go.Sx.M.at' l p).5, Go.Sx.AV.int Go.IntKind.i64 (Go.Sx.M.at' l p).6]))] = Go.Proofs.Ytbhbokhdkapkpaa.L1.eoSt2 l p (0 : Nat) ∧ Go.Proofs.Ytbhbokhdkapkpaa.L1.eoI2 l p (0 : Nat)) ∧ ∀ (p_1 : Nat), Go.Proofs.Ytbhbokhdkapkpaa.L1.eoI2 l p p_1 → (Decidable.decide ((↑p_1 : Int) < (↑p : Int)) = Bool.true → ((0 : Int) ≤ (↑p_1 : Int) ∧ (↑p_1 : Int) < (↑p : Int)) ∧ Go.Sx.Blk.read Go.Proofs.Try.prog (Go.Sx.Blk.mk Bool.false (28 : Go.TypeId) (6 : Nat) Bool.true (List.map Go.Proofs.Ytbhbokhdkapkpaa.L1.enE l)) (28 : Nat) ((0 : Nat) + Int.toNat (↑p_1 : Int)) (0 : Nat) = Option.some (Go.Sx.AV.agg [Go.Sx.AV.w64 (Go.Sx.M.at' l p_1).1, Go.Sx.AV.w64 (Go.Sx.M.at' l p_1).2, Go.Sx.AV.w64 (Go.Sx.M.at' l p_1).3, Go.Sx.AV.w64 (Go.Sx.M.at' l p_1).4, Go.Sx.AV.int Go.IntKind.i64 (Go.Sx.M.at' l p_1).5, Go.Sx.AV.int Go.IntKind.i64 (Go.Sx.M.at' l p_1).6]) ∧ (Go.Sx.M.abE (Go.Sx.M.En.mk (Go.Sx.M.En.v (Go.Sx.M.at' l p)) (Go.Sx.M.En.w (Go.Sx.M.at' l p)) (Go.Sx.M.En.m (Go.Sx.M.at' l p)) (Go.Sx.M.En.n (Go.Sx.M.at' l p)) (Go.Sx.M.En.len (Go.Sx.M.at' l p)) (Go.Sx.M.En.act (Go.Sx.M.at' l p))) (Go.Sx.M.En.mk (Go.Sx.M.En.v (Go.Sx.M.at' l p_1)) (Go.Sx.M.En.w (Go.Sx.M.at' l p_1)) (Go.Sx.M.En.m (Go.Sx.M.at' l p_1)) (Go.Sx.M.En.n (Go.Sx.M.at' l p_1)) (Go.Sx.M.En.len (Go.Sx.M.at' l p_1)) (Go.Sx.M.En.act (Go.Sx.M.at' l p_1))) = Bool.true → Decidable.decide ((↑p_1 : Int) ≥ (0 : Int)) = Bool.true ∧ Go.Sx.AV.bool Bool.false = r) ∧ (Go.Sx.M.abE (Go.Sx.M.En.mk (Go.Sx.M.En.v (Go.Sx.M.at' l p)) (Go.Sx.M.En.w (Go.Sx.M.at' l p)) (Go.Sx.M.En.m (Go.Sx.M.at' l p)) (Go.Sx.M.En.n (Go.Sx.M.at' l p)) (Go.Sx.M.En.len (Go.Sx.M.at' l p)) (Go.Sx.M.En.act (Go.Sx.M.at' l p))) (Go.Sx.M.En.mk (Go.Sx.M.En.v (Go.Sx.M.at' l p_1)) (Go.Sx.M.En.w (Go.Sx.M.at' l p_1)) (Go.Sx.M.En.m (Go.Sx.M.at' l p_1)) (Go.Sx.M.En.n (Go.Sx.M.at' l p_1)) (Go.Sx.M.En.len (Go.Sx.M.at' l p_1)) (Go.Sx.M.En.act (Go.Sx.M.at' l p_1))) = Bool.false → Go.Sx.inRange Go.IntKind.i64 ((↑p_1 : Int) + (1 : Int)) ∧ ∃ (p' : Nat), Go.Sx.St.mk [Go.Sx.AV.vsl (0 : Nat) (0 : Nat) p, Go.Sx.AV.func (Go.Fn.func (47 : Go.FuncId)) [] [Go.Sx.AV.ptr ((0 : Nat) + (1 : Nat)) (0 : Nat) (0 : Nat) Bool.true], Go.Sx.AV.any, Go.Sx.AV.any, Go.Sx.AV.any, Go.Sx.AV.any, Go.Sx.AV.any, Go.Sx.AV.int Go.IntKind.i64 (↑p : Int), Go.Sx.AV.int Go.IntKind.i64 ((↑p_1 : Int) + (1 : Int)), Go.Sx.AV.any, Go.Sx.AV.any, Go.Sx.AV.any, Go.Sx.AV.any, Go.Sx.AV.any, Go.Sx.AV.any, Go.Sx.AV.any, Go.Sx.AV.any, Go.Sx.AV.any, Go.Sx.AV.any] [Option.some (Go.Sx.Blk.mk Bool.false (28 : Go.TypeId) (6 : Nat) Bool.true (List.map Go.Proofs.Ytbhbokhdkapkpaa.L1.enE l)), Option.some (Go.Sx.Blk.mk Bool.true (28 : Go.TypeId) (6 : Nat) Bool.true [Go.Sx.AV.agg [Go.Sx.AV.w64 (Go.Sx.M.at' l p).1, Go.Sx.AV.w64 (Go.Sx.M.at' l p).2, Go.Sx.AV.w64 (Go.Sx.M.at' l p).3, Go.Sx.AV.w64 (Go.Sx.M.at' l p).4, Go.Sx.AV.int Go.IntKind.i64 (Go.Sx.M.at' l p).5, Go.Sx.AV.int Go.IntKind.i64 (Go.Sx.M.at' l p).6]])] = Go.Proofs.Ytbhbokhdkapkpaa.L1.eoSt2 l p p' ∧ Go.Proofs.Ytbhbokhdkapkpaa.L1.eoI2 l p p' ∧ List.length l + (1 : Nat) - p' < List.length l + (1 : Nat) - p_1)) ∧ (Decidable.decide ((↑p_1 : Int) < (↑p : Int)) = Bool.false → ∃ (p' : Nat), Go.Sx.St.mk [Go.Sx.AV.vsl (0 : Nat) (0 : Nat) (List.length (List.map Go.Proofs.Ytbhbokhdkapkpaa.L1.enE l)), Go.Sx.AV.any, Go.Sx.AV.any, Go.Sx.AV.int Go.IntKind.i64 (if (Go.Sx.M.at' l p).5 < Go.Sx.M.mnG l p then (Go.Sx.M.at' l p).5 else Go.Sx.M.mnG l p), Go.Sx.AV.any, Go.Sx.AV.any, Go.Sx.AV.any, Go.Sx.AV.vsl (0 : Nat) (0 : Nat) (List.length (List.map Go.Proofs.Ytbhbokhdkapkpaa.L1.enE l)), Go.Sx.AV.int Go.IntKind.i64 (↑(List.length (List.map Go.Proofs.Ytbhbokhdkapkpaa.L1.enE l)) : Int), Go.Sx.AV.int Go.IntKind.i64 (Go.IntKind.wrap Go.IntKind.i64 ((↑p : Int) + (1 : Int))), Go.Sx.AV.any, Go.Sx.AV.any, Go.Sx.AV.any, Go.Sx.AV.any, Go.Sx.AV.any, Go.Sx.AV.any, Go.Sx.AV.any, Go.Sx.AV.any, Go.Sx.AV.any, Go.Sx.AV.any, Go.Sx.AV.any, Go.Sx.AV.any, Go.Sx.AV.any, Go.Sx.AV.any, Go.Sx.AV.any, Go.Sx.AV.any, Go.Sx.AV.any, Go.Sx.AV.any, Go.Sx.AV.any, Go.Sx.AV.any, Go.Sx.AV.any] [Option.some (Go.Sx.Blk.mk Bool.false (28 : Go.TypeId) (6 : Nat) Bool.true (List.map Go.Proofs.Ytbhbokhdkapkpaa.L1.enE l))] = Go.Proofs.Ytbhbokhdkapkpaa.L1.eoSt l p' ∧ (p' ≤ List.length l ∧ Go.Sx.M.OrTo l p') ∧ List.length l + (1 : Nat) - p' < List.length l + (1 : Nat) - p)) ∧ (Decidable.decide (Go.Sx.M.En.len (Go.Sx.M.at' l p) > Go.Sx.M.mnG l p) = Bool.false → Go.Sx.inRange Go.IntKind.i64 ((↑p : Int) + (1 : Int)) ∧ ∃ (p' : Nat), Go.Sx.St.mk [Go.Sx.AV.vsl (0 : Nat) (0 : Nat) (List.length (List.map Go.Proofs.Ytbhbokhdkapkpaa.L1.enE l)), Go.Sx.AV.any, Go.Sx.AV.any, Go.Sx.AV.int Go.IntKind.i64 (if (Go.Sx.M.at' l p).5 < Go.Sx.M.mnG l p then (Go.Sx.M.at' l p).5 else Go.Sx.M.mnG l p), Go.Sx.AV.any, Go.Sx.AV.any, Go.Sx.AV.any, Go.Sx.AV.vsl (0 : Nat) (0 : Nat) (List.length (List.map Go.Proofs.Ytbhbokhdkapkpaa.L1.enE l)), Go.Sx.AV.int Go.IntKind.i64 (↑(List.length (List.map Go.Proofs.Ytbhbokhdkapkpaa.L1.enE l)) : Int), Go.Sx.AV.int Go.IntKind.i64 ((↑p : Int) + (1 : Int)), Go.Sx.AV.any, Go.Sx.AV.any, Go.Sx.AV.any, Go.Sx.AV.any, Go.Sx.AV.any, Go.Sx.AV.any, Go.Sx.AV.any, Go.Sx.AV.any, Go.Sx.AV.any, Go.Sx.AV.any, Go.Sx.AV.any, Go.Sx.AV.any, Go.Sx.AV.any, Go.Sx.AV.any, Go.Sx.AV.any, Go.Sx.AV.any, Go.Sx.AV.any, Go.Sx.AV.any, Go.Sx.AV.any, Go.Sx.AV.any, Go.Sx.AV.any] [Option.some (Go.Sx.Blk.mk Bool.false (28 : Go.TypeId) (6 : Nat) Bool.true (List.map Go.Proofs.Ytbhbokhdkapkpaa.L1.enE l))] = Go.Proofs.Ytbhbokhdkapkpaa.L1.eoSt l p' ∧ (p' ≤ List.length l ∧ Go.Sx.M.OrTo l p') ∧ List.length l + (1 : Nat) - p' < List.length l + (1 : Nat) - p)) ∧ (Decidable.decide ((↑p : Int) < (↑(List.length (List.map Go.Proofs.Ytbhbokhdkapkpaa.L1.enE l)) : Int)) = Bool.false → Go.Sx.AV.bool Bool.true = r)) := by kernel_rfl

theorem eorderedCs_ok : ∀ e ∈ eorderedCs, SpecOK Try.prog e.1 e.2 := by
  intro e he
  simp only [eorderedCs, List.mem_cons, List.not_mem_nil, or_false] at he
  rcases he with rfl
  · exact eabove_ok

theorem eordered_ok : SpecOK Try.prog 29 (genSpec [pEn] rorderedF) := by
  refine genSpec_ok (run_ok (l := eorderedCs) eorderedCs_ok mixed noNG) fun l R hF => ?_
  unfold rorderedF at hF
  split at hF
  · rename_i r_l
    obtain ⟨hr_l, hl, hF⟩ := hF
    generalize deE r_l = l at hr_l hl hF
    subst hr_l
    refine ⟨_, hF, rfl, (eoH l), ?_⟩
    show run eorderedCs Try.prog _ [.vsl 0 0 (l.map enE).length] [some ⟨false, (pEn.getD (0, 0)).1, (pEn.getD (0, 0)).2, true, (l.map enE)⟩] _ _
    rw [eordered_run]
    refine ⟨⟨rfl, Nat.zero_le _, fun k hk => by omega⟩, ?_⟩
    rintro p ⟨h1, h2⟩
    refine ⟨fun hlt => ?_, fun hge => ?_⟩
    · have hp : p < l.length := by simp only [decide_eq_true_eq, List.length_map] at hlt; omega
      have B : 0 ≤ (p : Int) ∧ (p : Int) < ((l.map enE).length : Int) := by rw [List.length_map]; omega
      have nx : ∀ x : Int, x = (p : Int) + 1 → OrTo l (p + 1) → ∃ p', (⟨[.vsl 0 0 (l.map enE).length, .any, .any, .int .i64 (if (at' l p).len < mnG l p then (at' l p).len else mnG l p), .any, .any, .any, .vsl 0 0 (l.map enE).length, .int .i64 (l.map enE).length, .int .i64 x, .any, .any, .any, .any, .any, .any, .any, .any, .any, .any, .any, .any, .any, .any, .any, .any, .any, .any, .any, .any, .any], [some ⟨false, 28, 6, true, l.map enE⟩]⟩ : St) = eoSt l p' ∧ (p' ≤ l.length ∧ OrTo l p') ∧ l.length + 1 - p' < l.length + 1 - p := fun x hx h => ⟨p + 1, by subst hx; rfl, ⟨by omega, h⟩, by omega⟩
      refine ⟨B, read_rows B.1 B.2 (en_whole _), fun hg => ⟨rfl, by rw [List.length_map]; omega, ⟨rfl, Nat.zero_le _, fun j hj => by omega⟩, ?_⟩, fun hg => ⟨inR (by omega) (by omega), nx _ rfl (h2.short (of_decide_eq_false hg))⟩⟩
      rintro k ⟨h3, h4⟩
      refine ⟨fun hlt => ?_, fun hge => nx _ (wrap_inRange (inR (by omega) (by omega))) (h2.next fun i hi => h4 i (by simp only [decide_eq_false_iff_not] at hge; omega))⟩
      have hk : (k : Int) < p := of_decide_eq_true hlt
      refine ⟨⟨by omega, hk⟩, read_rows (by omega) (by rw [List.length_map]; omega) (en_whole _), fun ha => ⟨by simp, ?_⟩, fun ha => ⟨inR (by omega) (by omega), k + 1, rfl, ⟨by omega, up h4 ha⟩, by omega⟩⟩
      rw [notT OrTo.all fun h => by
        have := h p hp k (by omega)
        rw [show abE (at' l p) (at' l k) = true from ha] at this; cases this]
    · have hp : p = l.length := by simp only [decide_eq_false_iff_not, List.length_map] at hge; omega
      subst hp
      rw [OrTo.all.2 h2]
  · exact hF.elim


noncomputable def ecompareCs : List (FuncId × Sx.Spec) := [(53, genSpec [none, none] cmpF),
  (52, genSpec [none, none] cmpzF),
  (51, genSpec [pInt] or4F)]

noncomputable def ecompare_run_cut0 (v w m n : BitVec 64) (k j : Int) (c d p q : BitVec 64) (s t : Int) : St := Go.Sx.St.mk [Go.Sx.AV.any, Go.Sx.AV.any, Go.Sx.AV.any, Go.Sx.AV.any, Go.Sx.AV.int Go.IntKind.i64 (Go.Sx.M.orZ (Go.Sx.M.cmpZ s k) (Go.Sx.M.orZ (Go.Sx.M.cmpV (Go.Sx.M.V v w) (Go.Sx.M.V c d)) (Go.Sx.M.orZ (Go.Sx.M.cmpV (Go.Sx.M.V m n) (Go.Sx.M.V p q)) (Go.Sx.M.cmpZ j t)))), Go.Sx.AV.any, Go.Sx.AV.any, Go.Sx.AV.any, Go.Sx.AV.any, Go.Sx.AV.any, Go.Sx.AV.any, Go.Sx.AV.any, Go.Sx.AV.any, Go.Sx.AV.any, Go.Sx.AV.any, Go.Sx.AV.any, Go.Sx.AV.any, Go.Sx.AV.any, Go.Sx.AV.any, Go.Sx.AV.any, Go.Sx.AV.any, Go.Sx.AV.any, Go.Sx.AV.any, Go.Sx.AV.any, Go.Sx.AV.any, Go.Sx.AV.any, Go.Sx.AV.any, Go.Sx.AV.any, Go.Sx.AV.any, Go.Sx.AV.any, Go.Sx.AV.any] []

theorem ecompare_run (v w m n : BitVec 64) (k j : Int) (c d p q : BitVec 64) (s t : Int) (r : AV) : run ecompareCs Try.prog 32 [.agg [.w64 v, .w64 w, .w64 m, .w64 n, .int .i64 k, .int .i64 j], .agg [.w64 c, .w64 d, .w64 p, .w64 q, .int .i64 s, .int .i64 t]] [] [.cut 31 [4] (ecompare_run_cut0 v w m n k j c d p q s t) []] (yields (.v r)) =
    ((∃ (_ : Unit), (ecompare_run_cut0 v w m n k j c d p q s t) = (ecompare_run_cut0 v w m n k j c d p q s t) ∧ True) ∧ ∀ (_ : Unit), True → Go.Sx.AV.int Go.IntKind.i64 (Go.Sx.M.orZ (Go.Sx.M.cmpZ s k) (Go.Sx.M.orZ (Go.Sx.M.cmpV (Go.Sx.M.V v w) (Go.Sx.M.V c d)) (Go.Sx.M.orZ (Go.Sx.M.cmpV (Go.Sx.M.V m n) (Go.Sx.M.V p q)) (Go.Sx.M.cmpZ j t)))) = r) := by kernel_rfl

theorem ecompareCs_ok : ∀ e ∈ ecompareCs, SpecOK Try.prog e.1 e.2 := by
  intro e he
  simp only [ecompareCs, List.mem_cons, List.not_mem_nil, or_false] at he
  rcases he with rfl | rfl | rfl
  · exact acmp_ok
  · exact cmpz_ok
  · exact or4_ok

theorem ecompare_ok : SpecOK Try.prog 32 (genSpec [none, none] rcompareF) := by
  refine genSpec_ok (run_ok (l := ecompareCs) ecompareCs_ok mixed noNG) fun l R hF => ?_
  unfold rcompareF at hF
  split at hF
  · rename_i v w m n k j c d p q s t
    refine ⟨_, hF, rfl, [.cut 31 [4] (ecompare_run_cut0 v w m n k j c d p q s t) []], ?_⟩
    show run ecompareCs Try.prog _ [.agg [.w64 v, .w64 w, .w64 m, .w64 n, .int .i64 k, .int .i64 j], .agg [.w64 c, .w64 d, .w64 p, .w64 q, .int .i64 s, .int .i64 t]] [] _ _
    rw [ecompare_run]
    exact ⟨⟨(), rfl, trivial⟩, fun _ _ => rfl⟩
  · exact hF.elim


end Go.Proofs.Ytbhbokhdkapkpaa.L1
