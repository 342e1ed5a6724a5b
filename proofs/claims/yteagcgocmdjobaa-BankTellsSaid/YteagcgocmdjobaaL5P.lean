/-
  Layer 5: contracts of the program's calls on entries: Right, Of, Above, Ordered, First, Best, Tell, Compare, Alike.
-/
import Derived.Test.YteagcgocmdjobaaL5D
import Derived.Test.YteagcgocmdjobaaMa
namespace Go.Proofs.Yteagcgocmdjobaa.L1
open Go.Sx Go.Sx.M

theorem mx0_of {x : Int} (h : 0 ≤ x) : mx0 x = x := by unfold mx0; rw [if_neg (by omega)]

def ebSt (l : List En) (a b : BitVec 64) (p : Nat) : St :=
  ⟨[.vsl 0 0 (l.map enE).length, .any, .any, .ptr 1 0 0 true, .any, .any, .int .i64 (mx0 (fbG l a b p)), .bool (decide (fbG l a b p ≥ 0)), .any, .any, .any, .vsl 0 0 (l.map enE).length, .int .i64 (l.map enE).length, .int .i64 p, .any, .any, .any, .any, .any, .any, .any, .any, .any, .any, .any, .any, .any, .any, .any, .any, .any, .any, .any, .any, .any, .any, .any, .any, .any, .any, .any], [some ⟨false, 35, 6, true, l.map enE⟩, some ⟨true, 31, 2, true, [.agg [.w64 a, .w64 b]]⟩]⟩
def ebM0 : Modes := ⟨[1, 0, 0, 1, 0, 0, 2, 2, 0, 0, 0, 1, 1, 2, 0, 0, 0, 0, 0, 0, 0, 0, 0, 0, 0, 0, 0, 0, 0, 0, 0, 0, 0, 0, 0, 0, 0, 0, 0, 0, 0], [], [], [], []⟩
def ebM : Modes := ⟨[1, 0, 0, 1, 0, 0, 1, 1, 0, 0, 0, 1, 1, 1, 0, 0, 0, 0, 0, 0, 0, 0, 0, 0, 0, 0, 0, 0, 0, 0, 0, 0, 0, 0, 0, 0, 0, 0, 0, 0, 0], [], [], [], []⟩
def ebN : Modes := ⟨[1, 0, 0, 1, 0, 0, 2, 2, 0, 0, 0, 1, 1, 1, 0, 0, 0, 0, 0, 0, 0, 0, 0, 0, 0, 0, 0, 0, 0, 0, 0, 0, 0, 0, 0, 0, 0, 0, 0, 0, 0], [], [], [], []⟩
def ebM' : Modes := ⟨[0, 0, 0, 0, 0, 0, 1, 1, 0, 0, 0, 0, 0, 0, 0, 0, 0, 0, 0, 0, 0, 0, 0, 0, 0, 0, 0, 0, 0, 0, 0, 0, 0, 0, 0, 0, 0, 0, 0, 0, 0], [], [], [], []⟩
def ebH (l : List En) (a b : BitVec 64) : List Hint := [.linv _ 0 (ebSt l a b) (fun p => p ≤ l.length) (fun p => l.length + 1 - p) ebM0 ebN ebM' (fun _ => []) fun p =>
  [.fork [.dy, .cell (enE (at' l p)), .fork [.fork [.nw] [.nw]] [.dy, .cell (.int .i64 (at' l (mx0 (fbG l a b p)).toNat).len), .fork [.fork [.nw] [.nw]] [.nw]]] []]]

noncomputable def erightCs : List (FuncId × Sx.Spec) := [(54, genSpec [none] wrightF)]

theorem eright_run (v w m n : BitVec 64) (k j : Int) (r : AV) : run erightCs Try.prog 43 [.agg [.w64 v, .w64 w, .w64 m, .w64 n, .int .i64 k, .int .i64 j]] [] [.fork [.fork [.fork [.fork [] []] []] []] []] (yields (.v r)) =
    (((v &&& m == v && w &&& n == w) = true → (Decidable.decide ((0 : Int) ≤ k) = true → (Decidable.decide (k ≤ (128 : Int)) = true → (Decidable.decide ((1 : Int) ≤ j) = true → AV.bool (Decidable.decide (j ≤ (255 : Int))) = r) ∧ (Decidable.decide ((1 : Int) ≤ j) = false → AV.bool false = r)) ∧ (Decidable.decide (k ≤ (128 : Int)) = false → AV.bool false = r)) ∧ (Decidable.decide ((0 : Int) ≤ k) = false → AV.bool false = r)) ∧ ((v &&& m == v && w &&& n == w) = false → AV.bool false = r)) := by kernel_rfl

theorem erightCs_ok : ∀ e ∈ erightCs, SpecOK Try.prog e.1 e.2 := by
  intro e he
  simp only [erightCs, List.mem_cons, List.not_mem_nil, or_false] at he
  rcases he with rfl
  · exact wright_ok

theorem eright_ok : SpecOK Try.prog 43 (genSpec [none] erightF) := by
  refine genSpec_ok (run_ok (l := erightCs) erightCs_ok mixed noNG) fun l R hF => ?_
  unfold erightF at hF
  split at hF
  · rename_i v w m n k j
    refine ⟨_, hF, rfl, [.fork [.fork [.fork [.fork [] []] []] []] []], ?_⟩
    show run erightCs Try.prog _ [.agg [.w64 v, .w64 w, .w64 m, .w64 n, .int .i64 k, .int .i64 j]] [] _ _
    rw [eright_run]
    refine ⟨fun h => ⟨fun h1 => ⟨fun h2 => ⟨fun h3 => ?_, fun h3 => ?_⟩, fun h2 => ?_⟩, fun h1 => ?_⟩, fun h => ?_⟩
    · rw [show rtE ⟨v, w, m, n, k, j⟩ = ((v &&& m == v && w &&& n == w) && (decide (0 ≤ k) && (decide (k ≤ 128) && (decide (1 ≤ j) && decide (j ≤ 255))))) from rfl, h, h1, h2, h3]; rfl
    · rw [show rtE ⟨v, w, m, n, k, j⟩ = ((v &&& m == v && w &&& n == w) && (decide (0 ≤ k) && (decide (k ≤ 128) && (decide (1 ≤ j) && decide (j ≤ 255))))) from rfl, h, h1, h2, h3]; rfl
    · rw [show rtE ⟨v, w, m, n, k, j⟩ = ((v &&& m == v && w &&& n == w) && (decide (0 ≤ k) && (decide (k ≤ 128) && (decide (1 ≤ j) && decide (j ≤ 255))))) from rfl, h, h1, h2]; rfl
    · rw [show rtE ⟨v, w, m, n, k, j⟩ = ((v &&& m == v && w &&& n == w) && (decide (0 ≤ k) && (decide (k ≤ 128) && (decide (1 ≤ j) && decide (j ≤ 255))))) from rfl, h, h1]; rfl
    · rw [show rtE ⟨v, w, m, n, k, j⟩ = ((v &&& m == v && w &&& n == w) && (decide (0 ≤ k) && (decide (k ≤ 128) && (decide (1 ≤ j) && decide (j ≤ 255))))) from rfl, h]; rfl
  · exact hF.elim


noncomputable def eofCs : List (FuncId × Sx.Spec) := [(47, genSpec [none, none] makeF),
  (48, genSpec [none] wofF)]

theorem eof_run (a b : BitVec 64) (k j : Int) (r : AV) : run eofCs Try.prog 36 [.agg [.w64 a, .w64 b, .int .i64 k], .int .i64 j] [] [] (yields (.v r)) =
    (AV.agg [AV.w64 (a &&& mkW k &&& mkW (clamp k)), AV.w64 (b &&& mkW (k - (64 : Int)) &&& mkW (clamp k - (64 : Int))), AV.w64 (mkW (clamp k)), AV.w64 (mkW (clamp k - (64 : Int))), AV.int IntKind.i64 (clamp k), AV.int IntKind.i64 j] = r) := by kernel_rfl

theorem eofCs_ok : ∀ e ∈ eofCs, SpecOK Try.prog e.1 e.2 := by
  intro e he
  simp only [eofCs, List.mem_cons, List.not_mem_nil, or_false] at he
  rcases he with rfl | rfl
  · exact pmake_ok
  · exact wof_ok

theorem eof_ok : SpecOK Try.prog 36 (genSpec [none, none] eofF) := by
  refine genSpec_ok (run_ok (l := eofCs) eofCs_ok mixed noNG) fun l R hF => ?_
  unfold eofF at hF
  split at hF
  · rename_i a b k j
    refine ⟨_, hF, rfl, [], ?_⟩
    show run eofCs Try.prog _ [.agg [.w64 a, .w64 b, .int .i64 k], .int .i64 j] [] _ _
    rw [eof_run]
    rw [(mkW_clamp k).1, (mkW_clamp k).2, BitVec.and_assoc, BitVec.and_self, BitVec.and_assoc, BitVec.and_self]
  · exact hF.elim


noncomputable def ebestCs : List (FuncId × Sx.Spec) := [(52, genSpec [none, none] wmatchF)]

theorem ebest_run (l : List En) (a b : BitVec 64) (r : AV) : run ebestCs Try.prog 46 [.vsl 0 0 (l.map enE).length, .agg [.w64 a, .w64 b]] [some ⟨false, (pEn.getD (0, 0)).1, (pEn.getD (0, 0)).2, true, (l.map enE)⟩] (ebH l a b) (yields (.v r)) =
    ((St.mk [AV.vsl (0 : Nat) (0 : Nat) (List.length (List.map enE l)), AV.any, AV.any, AV.ptr ((0 : Nat) + (1 : Nat)) (0 : Nat) (0 : Nat) true, AV.any, AV.any, AV.int IntKind.i64 (0 : Int), AV.bool false, AV.any, AV.any, AV.any, AV.vsl (0 : Nat) (0 : Nat) (List.length (List.map enE l)), AV.int IntKind.i64 (↑(List.length (List.map enE l)) : Int), AV.int IntKind.i64 (0 : Int), AV.any, AV.any, AV.any, AV.any, AV.any, AV.any, AV.any, AV.any, AV.any, AV.any, AV.any, AV.any, AV.any, AV.any, AV.any, AV.any, AV.any, AV.any, AV.any, AV.any, AV.any, AV.any, AV.any, AV.any, AV.any, AV.any, AV.any] [some (Blk.mk false (nat_lit 35) (6 : Nat) true (List.map enE l)), some (Blk.mk true (31 : Nat) (2 : Nat) true [AV.agg [AV.w64 a, AV.w64 b]])] = ebSt l a b (0 : Nat) ∧ Nat.le (0 : Nat) (List.length l)) ∧ ∀ (p : Nat), Nat.le p (List.length l) → (Decidable.decide ((↑p : Int) < (↑(List.length (List.map enE l)) : Int)) = true → ((0 : Int) ≤ (↑p : Int) ∧ (↑p : Int) < (↑(List.length (List.map enE l)) : Int)) ∧ Blk.read Proofs.Try.prog (Blk.mk false (35 : TypeId) (6 : Nat) true (List.map enE l)) (35 : Nat) ((0 : Nat) + Int.toNat (↑p : Int)) (0 : Nat) = some (AV.agg [AV.w64 (at' l p).1, AV.w64 (at' l p).2, AV.w64 (at' l p).3, AV.w64 (at' l p).4, AV.int IntKind.i64 (at' l p).5, AV.int IntKind.i64 (at' l p).6]) ∧ ((!Decidable.decide (fbG l a b p ≥ (0 : Int))) = true → (wmB (at' l p).1 (at' l p).2 (at' l p).3 (at' l p).4 a b = true → inRange IntKind.i64 ((↑p : Int) + (1 : Int)) ∧ ∃ (p' : Nat), St.mk [AV.vsl (0 : Nat) (0 : Nat) (List.length (List.map enE l)), AV.any, AV.any, AV.ptr ((0 : Nat) + (1 : Nat)) (0 : Nat) (0 : Nat) true, AV.any, AV.any, AV.int IntKind.i64 (↑p : Int), AV.bool true, AV.any, AV.any, AV.any, AV.vsl (0 : Nat) (0 : Nat) (List.length (List.map enE l)), AV.int IntKind.i64 (↑(List.length (List.map enE l)) : Int), AV.int IntKind.i64 ((↑p : Int) + (1 : Int)), AV.any, AV.any, AV.any, AV.any, AV.any, AV.any, AV.any, AV.any, AV.any, AV.any, AV.any, AV.any, AV.any, AV.any, AV.any, AV.any, AV.any, AV.any, AV.any, AV.any, AV.any, AV.any, AV.any, AV.any, AV.any, AV.any, AV.any] [some (Blk.mk false (35 : TypeId) (6 : Nat) true (List.map enE l)), some (Blk.mk true (31 : TypeId) (2 : Nat) true [AV.agg [AV.w64 a, AV.w64 b]])] = ebSt l a b p' ∧ Nat.le p' (List.length l) ∧ List.length l + (1 : Nat) - p' < List.length l + (1 : Nat) - p) ∧ (wmB (at' l p).1 (at' l p).2 (at' l p).3 (at' l p).4 a b = false → inRange IntKind.i64 ((↑p : Int) + (1 : Int)) ∧ ∃ (p' : Nat), St.mk [AV.vsl (0 : Nat) (0 : Nat) (List.length (List.map enE l)), AV.any, AV.any, AV.ptr ((0 : Nat) + (1 : Nat)) (0 : Nat) (0 : Nat) true, AV.any, AV.any, AV.int IntKind.i64 (mx0 (fbG l a b p)), AV.bool (Decidable.decide (fbG l a b p ≥ (0 : Int))), AV.any, AV.any, AV.any, AV.vsl (0 : Nat) (0 : Nat) (List.length (List.map enE l)), AV.int IntKind.i64 (↑(List.length (List.map enE l)) : Int), AV.int IntKind.i64 ((↑p : Int) + (1 : Int)), AV.any, AV.any, AV.any, AV.any, AV.any, AV.any, AV.any, AV.any, AV.any, AV.any, AV.any, AV.any, AV.any, AV.any, AV.any, AV.any, AV.any, AV.any, AV.any, AV.any, AV.any, AV.any, AV.any, AV.any, AV.any, AV.any, AV.any] [some (Blk.mk false (35 : TypeId) (6 : Nat) true (List.map enE l)), some (Blk.mk true (31 : TypeId) (2 : Nat) true [AV.agg [AV.w64 a, AV.w64 b]])] = ebSt l a b p' ∧ Nat.le p' (List.length l) ∧ List.length l + (1 : Nat) - p' < List.length l + (1 : Nat) - p)) ∧ ((!Decidable.decide (fbG l a b p ≥ (0 : Int))) = false → ((0 : Int) ≤ mx0 (fbG l a b p) ∧ mx0 (fbG l a b p) < (↑(List.length (List.map enE l)) : Int)) ∧ Blk.read Proofs.Try.prog (Blk.mk false (35 : TypeId) (6 : Nat) true (List.map enE l)) (3 : Nat) ((0 : Nat) + Int.toNat (mx0 (fbG l a b p))) ((0 : Nat) + (4 : Nat)) = some (AV.int IntKind.i64 (at' l (Int.toNat (mx0 (fbG l a b p)))).5) ∧ (Decidable.decide ((at' l p).5 > (at' l (Int.toNat (mx0 (fbG l a b p)))).5) = true → (wmB (at' l p).1 (at' l p).2 (at' l p).3 (at' l p).4 a b = true → inRange IntKind.i64 ((↑p : Int) + (1 : Int)) ∧ ∃ (p' : Nat), St.mk [AV.vsl (0 : Nat) (0 : Nat) (List.length (List.map enE l)), AV.any, AV.any, AV.ptr ((0 : Nat) + (1 : Nat)) (0 : Nat) (0 : Nat) true, AV.any, AV.any, AV.int IntKind.i64 (↑p : Int), AV.bool true, AV.any, AV.any, AV.any, AV.vsl (0 : Nat) (0 : Nat) (List.length (List.map enE l)), AV.int IntKind.i64 (↑(List.length (List.map enE l)) : Int), AV.int IntKind.i64 ((↑p : Int) + (1 : Int)), AV.any, AV.any, AV.any, AV.any, AV.any, AV.any, AV.any, AV.any, AV.any, AV.any, AV.any, AV.any, AV.any, AV.any, AV.any, AV.any, AV.any, AV.any, AV.any, AV.any, AV.any, AV.any, AV.any, AV.any, AV.any, AV.any, AV.any] [some (Blk.mk false (35 : TypeId) (6 : Nat) true (List.map enE l)), some (Blk.mk true (31 : TypeId) (2 : Nat) true [AV.agg [AV.w64 a, AV.w64 b]])] = ebSt l a b p' ∧ Nat.le p' (List.length l) ∧ List.length l + (1 : Nat) - p' < List.length l + (1 : Nat) - p) ∧ (wmB (at' l p).1 (at' l p).2 (at' l p).3 (at' l p).4 a b = false → inRange IntKind.i64 ((↑p : Int) + (1 : Int)) ∧ ∃ (p' : Nat), St.mk [AV.vsl (0 : Nat) (0 : Nat) (List.length (List.map enE l)), AV.any, AV.any, AV.ptr ((0 : Nat) + (1 : Nat)) (0 : Nat) (0 : Nat) true, AV.any, AV.any, AV.int IntKind.i64 (mx0 (fbG l a b p)), AV.bool (Decidable.decide (fbG l a b p ≥ (0 : Int))), AV.any, AV.any, AV.any, AV.vsl (0 : Nat) (0 : Nat) (List.length (List.map enE l)), AV.int IntKind.i64 (↑(List.length (List.map enE l)) : Int), AV.int IntKind.i64 ((↑p : Int) + (1 : Int)), AV.any, AV.any, AV.any, AV.any, AV.any, AV.any, AV.any, AV.any, AV.any, AV.any, AV.any, AV.any, AV.any, AV.any, AV.any, AV.any, AV.any, AV.any, AV.any, AV.any, AV.any, AV.any, AV.any, AV.any, AV.any, AV.any, AV.any] [some (Blk.mk false (35 : TypeId) (6 : Nat) true (List.map enE l)), some (Blk.mk true (31 : TypeId) (2 : Nat) true [AV.agg [AV.w64 a, AV.w64 b]])] = ebSt l a b p' ∧ Nat.le p' (List.length l) ∧ List.length l + (1 : Nat) - p' < List.length l + (1 : Nat) - p)) ∧ (Decidable.decide ((at' l p).5 > (at' l (Int.toNat (mx0 (fbG l a b p)))).5) = false → inRange IntKind.i64 ((↑p : Int) + (1 : Int)) ∧ ∃ (p' : Nat), St.mk [AV.vsl (0 : Nat) (0 : Nat) (List.length (List.map enE l)), AV.any, AV.any, AV.ptr ((0 : Nat) + (1 : Nat)) (0 : Nat) (0 : Nat) true, AV.any, AV.any, AV.int IntKind.i64 (mx0 (fbG l a b p)), AV.bool (Decidable.decide (fbG l a b p ≥ (0 : Int))), AV.any, AV.any, AV.any, AV.vsl (0 : Nat) (0 : Nat) (List.length (List.map enE l)), AV.int IntKind.i64 (↑(List.length (List.map enE l)) : Int), AV.int IntKind.i64 ((↑p : Int) + (1 : Int)), AV.any, AV.any, AV.any, AV.any, AV.any, AV.any, AV.any, AV.any, AV.any, AV.any, AV.any, AV.any, AV.any, AV.any, AV.any, AV.any, AV.any, AV.any, AV.any, AV.any, AV.any, AV.any, AV.any, AV.any, AV.any, AV.any, AV.any] [some (Blk.mk false (35 : TypeId) (6 : Nat) true (List.map enE l)), some (Blk.mk true (31 : TypeId) (2 : Nat) true [AV.agg [AV.w64 a, AV.w64 b]])] = ebSt l a b p' ∧ Nat.le p' (List.length l) ∧ List.length l + (1 : Nat) - p' < List.length l + (1 : Nat) - p))) ∧ (Decidable.decide ((↑p : Int) < (↑(List.length (List.map enE l)) : Int)) = false → AV.tuple [AV.int IntKind.i64 (mx0 (fbG l a b p)), AV.bool (Decidable.decide (fbG l a b p ≥ (0 : Int)))] = r)) := by kernel_rfl

theorem ebestCs_ok : ∀ e ∈ ebestCs, SpecOK Try.prog e.1 e.2 := by
  intro e he
  simp only [ebestCs, List.mem_cons, List.not_mem_nil, or_false] at he
  rcases he with rfl
  · exact wmatch_ok

theorem ebest_ok : SpecOK Try.prog 46 (genSpec [pEn, none] ebestF) := by
  refine genSpec_ok (run_ok (l := ebestCs) ebestCs_ok mixed noNG) fun l R hF => ?_
  unfold ebestF at hF
  split at hF
  · rename_i r_l a b
    obtain ⟨hr_l, hl, hF⟩ := hF
    generalize deE r_l = l at hr_l hl hF
    subst hr_l
    refine ⟨_, hF, rfl, (ebH l a b), ?_⟩
    show run ebestCs Try.prog _ [.vsl 0 0 (l.map enE).length, .agg [.w64 a, .w64 b]] [some ⟨false, (pEn.getD (0, 0)).1, (pEn.getD (0, 0)).2, true, (l.map enE)⟩] _ _
    rw [ebest_run]
    refine ⟨⟨rfl, Nat.zero_le _⟩, ?_⟩
    intro p (hpl : p ≤ l.length)
    refine ⟨fun hlt => ?_, fun hge => ?_⟩
    · have hp : p < l.length := by simp only [decide_eq_true_eq, List.length_map] at hlt; omega
      have B : 0 ≤ (p : Int) ∧ (p : Int) < ((l.map enE).length : Int) := by rw [List.length_map]; omega
      have i1 : inRange .i64 ((p : Int) + 1) := inR (by omega) (by omega)
      have nx : ∀ (x : Int) (c : Bool), mx0 (fbG l a b (p + 1)) = x → decide (fbG l a b (p + 1) ≥ 0) = c → ∃ p', (⟨[.vsl 0 0 (l.map enE).length, .any, .any, .ptr 1 0 0 true, .any, .any, .int .i64 x, .bool c, .any, .any, .any, .vsl 0 0 (l.map enE).length, .int .i64 (l.map enE).length, .int .i64 ((p : Int) + 1), .any, .any, .any, .any, .any, .any, .any, .any, .any, .any, .any, .any, .any, .any, .any, .any, .any, .any, .any, .any, .any, .any, .any, .any, .any, .any, .any], [some ⟨false, 35, 6, true, l.map enE⟩, some ⟨true, 31, 2, true, [.agg [.w64 a, .w64 b]]⟩]⟩ : St) = ebSt l a b p' ∧ p' ≤ l.length ∧ l.length + 1 - p' < l.length + 1 - p := fun x c e1 e2 => ⟨p + 1, by subst e1; subst e2; rfl, by omega, by omega⟩
      have hs := fbG_spec l a b p
      have eg : fbG l a b (p + 1) = if (decide (fbG l a b p < 0) || decide ((at' l p).len > (at' l (fbG l a b p).toNat).len)) && mtE (at' l p) a b then (p : Int) else fbG l a b p := rfl
      have yes : (decide (fbG l a b p < 0) || decide ((at' l p).len > (at' l (fbG l a b p).toNat).len)) = true → mtE (at' l p) a b = true → mx0 (fbG l a b (p + 1)) = p ∧ decide (fbG l a b (p + 1) ≥ 0) = true := fun h1 h2 => by
        rw [eg, h1, h2, if_pos (show (true && true) = true from rfl)]
        exact ⟨mx0_of (by omega), by simp⟩
      have no : (decide (fbG l a b p < 0) || decide ((at' l p).len > (at' l (fbG l a b p).toNat).len)) = false ∨ mtE (at' l p) a b = false → fbG l a b (p + 1) = fbG l a b p := fun h => by
        rw [eg]
        rcases h with h | h <;> rw [h] <;> simp
      refine ⟨B, read_rows B.1 B.2 (en_whole _), fun hn => ⟨fun hm => ⟨i1, ?_⟩, fun hm => ⟨i1, ?_⟩⟩, fun hf => ?_⟩
      · have hn : fbG l a b p < 0 := by simp at hn; omega
        have := yes (by simp [hn]) hm
        exact nx _ _ this.1 this.2
      · have := no (.inr hm)
        exact nx _ _ (by rw [this]) (by rw [this])
      · have hf : fbG l a b p ≥ 0 := by simpa using hf
        have em : mx0 (fbG l a b p) = fbG l a b p := mx0_of hf
        have Bf : 0 ≤ mx0 (fbG l a b p) ∧ mx0 (fbG l a b p) < ((l.map enE).length : Int) := by
          rw [em, List.length_map]
          rcases hs with ⟨h, _⟩ | ⟨i, h, h3, _⟩ <;> omega
        refine ⟨Bf, read_rows Bf.1 Bf.2 (ref_len _), fun hg => ⟨fun hm => ⟨i1, ?_⟩, fun hm => ⟨i1, ?_⟩⟩, fun hg => ⟨i1, ?_⟩⟩
        · rw [em] at hg
          have := yes (by rw [hg, Bool.or_true]) hm
          exact nx _ _ this.1 this.2
        · have := no (.inr hm)
          exact nx _ _ (by rw [this]) (by rw [this])
        · rw [em] at hg
          have := no (.inl (by rw [hg, Bool.or_false]; simp; omega))
          exact nx _ _ (by rw [this]) (by rw [this])
    · have hp : p = l.length := by simp only [decide_eq_false_iff_not, List.length_map] at hge; omega
      subst hp
      rw [fbG_all]
  · exact hF.elim


noncomputable def etellCs : List (FuncId × Sx.Spec) := [(46, genSpec [pEn, none] ebestF)]

theorem etell_run (l : List En) (a b : BitVec 64) (r : AV) : run etellCs Try.prog 34 [.vsl 0 0 (l.map enE).length, .agg [.w64 a, .w64 b]] [some ⟨false, (pEn.getD (0, 0)).1, (pEn.getD (0, 0)).2, true, (l.map enE)⟩] [.fork [] [.dy, .cell (.int .i64 (at' l (mx0 (bsI l a b)).toNat).act)]] (yields (.v r)) =
    ((0 : Nat) + List.length (List.map enE l) ≤ List.length (List.map enE l) ∧ List.take (List.length (List.map enE l)) (List.drop (0 : Nat) (List.map enE l)) = List.map enE (deE (List.take (List.length (List.map enE l)) (List.drop (0 : Nat) (List.map enE l)))) ∧ List.length (deE (List.take (List.length (List.map enE l)) (List.drop (0 : Nat) (List.map enE l)))) ≤ (9223372036854775807 : Nat) ∧ ((!Decidable.decide (bsI (deE (List.take (List.length (List.map enE l)) (List.drop (0 : Nat) (List.map enE l)))) a b ≥ (0 : Int))) = true → AV.int IntKind.i64 (0 : Int) = r) ∧ ((!Decidable.decide (bsI (deE (List.take (List.length (List.map enE l)) (List.drop (0 : Nat) (List.map enE l)))) a b ≥ (0 : Int))) = false → ((0 : Int) ≤ mx0 (bsI (deE (List.take (List.length (List.map enE l)) (List.drop (0 : Nat) (List.map enE l)))) a b) ∧ mx0 (bsI (deE (List.take (List.length (List.map enE l)) (List.drop (0 : Nat) (List.map enE l)))) a b) < (↑(List.length (List.map enE l)) : Int)) ∧ Blk.read Proofs.Try.prog (Blk.mk false (nat_lit 35) (6 : Nat) true (List.map enE l)) (3 : Nat) ((0 : Nat) + Int.toNat (mx0 (bsI (deE (List.take (List.length (List.map enE l)) (List.drop (0 : Nat) (List.map enE l)))) a b))) ((0 : Nat) + (5 : Nat)) = some (AV.int IntKind.i64 (at' l (Int.toNat (mx0 (bsI l a b)))).6) ∧ AV.int IntKind.i64 (at' l (Int.toNat (mx0 (bsI l a b)))).6 = r)) := by kernel_rfl

theorem etellCs_ok : ∀ e ∈ etellCs, SpecOK Try.prog e.1 e.2 := by
  intro e he
  simp only [etellCs, List.mem_cons, List.not_mem_nil, or_false] at he
  rcases he with rfl
  · exact ebest_ok

theorem etell_ok : SpecOK Try.prog 34 (genSpec [pEn, none] rtellF) := by
  refine genSpec_ok (run_ok (l := etellCs) etellCs_ok mixed noNG) fun l R hF => ?_
  unfold rtellF at hF
  split at hF
  · rename_i r_l a b
    obtain ⟨hr_l, hl, hF⟩ := hF
    generalize deE r_l = l at hr_l hl hF
    subst hr_l
    refine ⟨_, hF, rfl, [.fork [] [.dy, .cell (.int .i64 (at' l (mx0 (bsI l a b)).toNat).act)]], ?_⟩
    show run etellCs Try.prog _ [.vsl 0 0 (l.map enE).length, .agg [.w64 a, .w64 b]] [some ⟨false, (pEn.getD (0, 0)).1, (pEn.getD (0, 0)).2, true, (l.map enE)⟩] _ _
    rw [etell_run]
    simp only [whole_row, deE_map]
    refine ⟨by omega, by trivial, hl, fun h => ?_, fun h => ?_⟩
    · have h : bsI l a b < 0 := by simp at h; omega
      unfold tlI
      rw [if_pos h]
    · have h : bsI l a b ≥ 0 := by simpa using h
      have em : mx0 (bsI l a b) = bsI l a b := mx0_of h
      have B : 0 ≤ mx0 (bsI l a b) ∧ mx0 (bsI l a b) < ((l.map enE).length : Int) := by
        rw [em]
        rcases bsI_spec l a b with ⟨h1, _⟩ | ⟨i, h1, _, h2, _⟩
        · omega
        · rw [h1, List.length_map]; omega
      refine ⟨B, read_rows B.1 B.2 (ref_act _), ?_⟩
      unfold tlI
      rw [if_neg (by omega), em]
  · exact hF.elim


end Go.Proofs.Yteagcgocmdjobaa.L1
