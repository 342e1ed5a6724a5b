/-
  Layer 2: contracts of the program's and the document's calls on prefixes.
-/
import Derived.Test.YtffcpblbdfjagaaL1Mask
import Derived.Test.YtffcpblbdfjagaaL1Bit
namespace Go.Proofs.Ytffcpblbdfjagaa.L1
open Go.Sx Go.Sx.M

/-- May a prefix be? -/
def rightB (w : Int) (a b : BitVec 64) (n : Int) : Bool := (w == 32 || w == 128) && (decide (0 ≤ n) && (decide (n ≤ w) && (a &&& mkW n == a && b &&& mkW (n - 64) == b)))

/-- Do the first n bits agree? -/
def matchB (a b : BitVec 64) (n : Int) (c d : BitVec 64) : Bool := a &&& mkW n == c &&& mkW n && b &&& mkW (n - 64) == d &&& mkW (n - 64)

def makeF : List Arg → (Res → Prop) → Prop
  | [.v (.agg [.w64 a, .w64 b]), .v (.int .i64 n)], R => R (.v (.agg [.w64 (a &&& mkW n), .w64 (b &&& mkW (n - 64)), .int .i64 (clamp n)]))
  | _, _ => False

def rightF : List Arg → (Res → Prop) → Prop
  | [.v (.int .i64 w), .v (.agg [.w64 a, .w64 b, .int .i64 n])], R => R (.v (.bool (rightB w a b n)))
  | _, _ => False

def matchF : List Arg → (Res → Prop) → Prop
  | [.v (.agg [.w64 a, .w64 b, .int .i64 n]), .v (.agg [.w64 c, .w64 d])], R => R (.v (.bool (matchB a b n c d)))
  | _, _ => False

def coversF : List Arg → (Res → Prop) → Prop
  | [.v (.agg [.w64 a, .w64 b, .int .i64 n]), .v (.agg [.w64 c, .w64 d, .int .i64 m])], R => R (.v (.bool (decide (n ≤ m) && matchB a b n c d)))
  | _, _ => False

noncomputable def pmakeCs : List (FuncId × Sx.Spec) := [(54, genSpec [none, none] cutF)]

noncomputable def prightCs : List (FuncId × Sx.Spec) := [(39, genSpec [none, none] makeF)]

noncomputable def pcoversCs : List (FuncId × Sx.Spec) := [(38, genSpec [none, none] matchF)]

theorem pmake_run (a b : BitVec 64) (n : Int) (r : AV) : run pmakeCs Try.prog 39 [.agg [.w64 a, .w64 b], .int .i64 n] [] [] (yields (.v r)) =
    (Go.Sx.AV.agg (List.map Go.Sx.canon1 (List.take (3 : Nat) (List.drop (0 : Nat) [Go.Sx.AV.w64 (a &&& Go.Proofs.Ytffcpblbdfjagaa.L1.mkW n), Go.Sx.AV.w64 (b &&& Go.Proofs.Ytffcpblbdfjagaa.L1.mkW (n - (64 : Int))), Go.Sx.AV.int Go.IntKind.i64 (if (128 : Int) < if (0 : Int) > n then (0 : Int) else n then (128 : Int) else if (0 : Int) > n then (0 : Int) else n)]))) = r) := by kernel_rfl

theorem pright_run (w : Int) (a b : BitVec 64) (n : Int) (r : AV) : run prightCs Try.prog 31 [.int .i64 w, .agg [.w64 a, .w64 b, .int .i64 n]] [] [.fork [.fork [] []] [.fork [.fork [] []] []]] (yields (.v r)) =
    (((w == (32 : Int)) = Bool.true → (Decidable.decide (n ≤ w) = Bool.true → Go.Sx.AV.bool (a &&& Go.Proofs.Ytffcpblbdfjagaa.L1.mkW n == a && b &&& Go.Proofs.Ytffcpblbdfjagaa.L1.mkW (n - (64 : Int)) == b && Go.Proofs.Ytffcpblbdfjagaa.L1.clamp n == n) = r) ∧ (Decidable.decide (n ≤ w) = Bool.false → Go.Sx.AV.bool Bool.false = r)) ∧ ((w == (32 : Int)) = Bool.false → ((w == (128 : Int)) = Bool.true → (Decidable.decide (n ≤ w) = Bool.true → Go.Sx.AV.bool (a &&& Go.Proofs.Ytffcpblbdfjagaa.L1.mkW n == a && b &&& Go.Proofs.Ytffcpblbdfjagaa.L1.mkW (n - (64 : Int)) == b && Go.Proofs.Ytffcpblbdfjagaa.L1.clamp n == n) = r) ∧ (Decidable.decide (n ≤ w) = Bool.false → Go.Sx.AV.bool Bool.false = r)) ∧ ((w == (128 : Int)) = Bool.false → Go.Sx.AV.bool Bool.false = r))) := by kernel_rfl

theorem pmatch_run (a b : BitVec 64) (n : Int) (c d : BitVec 64) (r : AV) : run pmakeCs Try.prog 38 [.agg [.w64 a, .w64 b, .int .i64 n], .agg [.w64 c, .w64 d]] [] [] (yields (.v r)) =
    (Go.Sx.AV.bool (c &&& Go.Proofs.Ytffcpblbdfjagaa.L1.mkW n == a &&& Go.Proofs.Ytffcpblbdfjagaa.L1.mkW n && d &&& Go.Proofs.Ytffcpblbdfjagaa.L1.mkW (n - (64 : Int)) == b &&& Go.Proofs.Ytffcpblbdfjagaa.L1.mkW (n - (64 : Int))) = r) := by kernel_rfl

theorem pcovers_run (a b : BitVec 64) (n : Int) (c d : BitVec 64) (m : Int) (r : AV) : run pcoversCs Try.prog 53 [.agg [.w64 a, .w64 b, .int .i64 n], .agg [.w64 c, .w64 d, .int .i64 m]] [] [.fork [] []] (yields (.v r)) =
    ((Decidable.decide (m ≥ n) = Bool.true → Go.Sx.AV.bool (Go.Proofs.Ytffcpblbdfjagaa.L1.matchB a b n c d) = r) ∧ (Decidable.decide (m ≥ n) = Bool.false → Go.Sx.AV.bool Bool.false = r)) := by kernel_rfl

theorem pmakeCs_ok : ∀ e ∈ pmakeCs, SpecOK Try.prog e.1 e.2 := by
  intro e he
  simp only [pmakeCs, List.mem_cons, List.not_mem_nil, or_false] at he
  rcases he with rfl
  exact cut_ok

theorem pmake_ok : SpecOK Try.prog 39 (genSpec [none, none] makeF) := by
  refine genSpec_ok (run_ok (l := pmakeCs) pmakeCs_ok mixed noNG) fun l R hF => ?_
  unfold makeF at hF
  split at hF
  · rename_i a b n
    refine ⟨_, hF, rfl, [], ?_⟩
    show run pmakeCs Try.prog _ [.agg [.w64 a, .w64 b], .int .i64 n] [] _ _
    rw [pmake_run, clamp_eq]
    rfl
  · exact hF.elim

theorem clamp_iff {n : Int} : clamp n = n ↔ 0 ≤ n ∧ n ≤ 128 := by unfold clamp; omega

theorem prightCs_ok : ∀ e ∈ prightCs, SpecOK Try.prog e.1 e.2 := by
  intro e he
  simp only [prightCs, List.mem_cons, List.not_mem_nil, or_false] at he
  rcases he with rfl
  exact pmake_ok

theorem pright_ok : SpecOK Try.prog 31 (genSpec [none, none] rightF) := by
  refine genSpec_ok (run_ok (l := prightCs) prightCs_ok mixed noNG) fun l R hF => ?_
  unfold rightF at hF
  split at hF
  · rename_i w a b n
    refine ⟨_, hF, rfl, [.fork [.fork [] []] [.fork [.fork [] []] []]], ?_⟩
    show run prightCs Try.prog _ [.int .i64 w, .agg [.w64 a, .w64 b, .int .i64 n]] [] _ _
    rw [pright_run]
    have key : w ≤ 128 → n ≤ w → (a &&& mkW n == a && b &&& mkW (n - 64) == b && clamp n == n) = (decide (0 ≤ n) && (a &&& mkW n == a && b &&& mkW (n - 64) == b)) := fun hw hn => by
      have : (clamp n == n) = decide (0 ≤ n) := by
        rw [Bool.eq_iff_iff, beq_iff_eq, decide_eq_true_eq, clamp_iff]; omega
      rw [this, Bool.and_comm]
    refine ⟨fun h => ⟨fun h1 => ?_, fun h1 => ?_⟩, fun h => ⟨fun h2 => ⟨fun h1 => ?_, fun h1 => ?_⟩, fun h2 => ?_⟩⟩
    all_goals
      congr 1
      unfold rightB
      rw [h]
    · have e : w = 32 := by simpa using h
      rw [key (by omega) (by simpa using h1), h1]; simp
    · rw [h1]; simp
    · have e : w = 128 := by simpa using h2
      rw [h2, key (by omega) (by simpa using h1), h1]; simp
    · rw [h2, h1]; simp
    · rw [h2]; simp
  · exact hF.elim

theorem matchB_comm {a b c d : BitVec 64} {n : Int} : matchB a b n c d = matchB c d n a b := by
  unfold matchB
  rw [Bool.eq_iff_iff]
  simp only [Bool.and_eq_true, beq_iff_eq]
  exact ⟨fun h => ⟨h.1.symm, h.2.symm⟩, fun h => ⟨h.1.symm, h.2.symm⟩⟩

theorem pmatch_ok : SpecOK Try.prog 38 (genSpec [none, none] matchF) := by
  refine genSpec_ok (run_ok (l := pmakeCs) pmakeCs_ok mixed noNG) fun l R hF => ?_
  unfold matchF at hF
  split at hF
  · rename_i a b n c d
    refine ⟨_, hF, rfl, [], ?_⟩
    show run pmakeCs Try.prog _ [.agg [.w64 a, .w64 b, .int .i64 n], .agg [.w64 c, .w64 d]] [] _ _
    rw [pmatch_run, matchB_comm]
    rfl
  · exact hF.elim

theorem pcoversCs_ok : ∀ e ∈ pcoversCs, SpecOK Try.prog e.1 e.2 := by
  intro e he
  simp only [pcoversCs, List.mem_cons, List.not_mem_nil, or_false] at he
  rcases he with rfl
  exact pmatch_ok

theorem pcovers_ok : SpecOK Try.prog 53 (genSpec [none, none] coversF) := by
  refine genSpec_ok (run_ok (l := pcoversCs) pcoversCs_ok mixed noNG) fun l R hF => ?_
  unfold coversF at hF
  split at hF
  · rename_i a b n c d m
    refine ⟨_, hF, rfl, [.fork [] []], ?_⟩
    show run pcoversCs Try.prog _ [.agg [.w64 a, .w64 b, .int .i64 n], .agg [.w64 c, .w64 d, .int .i64 m]] [] _ _
    rw [pcovers_run]
    refine ⟨fun h => ?_, fun h => ?_⟩
    · rw [show decide (n ≤ m) = true from h, Bool.true_and]
    · rw [show decide (n ≤ m) = false from h, Bool.false_and]
  · exact hF.elim

end Go.Proofs.Ytffcpblbdfjagaa.L1
