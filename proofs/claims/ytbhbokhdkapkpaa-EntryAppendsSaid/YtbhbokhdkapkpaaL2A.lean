/-
  Layer 2: contracts of the program's and the document's calls on prefixes.
-/
import Derived.Test.YtbhbokhdkapkpaaL1Mask
import Derived.Test.YtbhbokhdkapkpaaL1Bit
namespace Go.Proofs.Ytbhbokhdkapkpaa.L1
open Go.Sx Go.Sx.M

/-- May a prefix be? -/
def rightB (w : Int) (a b : BitVec 64) (n : Int) : Bool := (w == 32 || w == 128) && (decide (0 ≤ n) && (decide (n ≤ w) && (a &&& mkW n == a && b &&& mkW (n - 64) == b)))

/-- Do the first n bits agree? -/
def matchB (a b : BitVec 64) (n : Int) (c d : BitVec 64) : Bool := a &&& mkW n == c &&& mkW n && b &&& mkW (n - 64) == d &&& mkW (n - 64)

def makeF : List Arg → (Res → Prop) → Prop
  | [.v (.agg [.w64 a, .w64 b]), .v (.int .i64 n)], R => R (.v (.agg [.w64 (a &&& mkW n), .w64 (b &&& mkW (n - 64)), .int .i64 (clamp n)]))
  | _, _ => False

def rightF : List Arg → (Res → Prop) → Prop
  | [.v (.int .i64 w), .v (.agg [.w64 a, .w64 b, .int .i64 n])], R => R (.v (.bool (rightB w a b n)))
  | _, _ => False

def matchF : List Arg → (Res → Prop) → Prop
  | [.v (.agg [.w64 a, .w64 b, .int .i64 n]), .v (.agg [.w64 c, .w64 d])], R => R (.v (.bool (matchB a b n c d)))
  | _, _ => False

def coversF : List Arg → (Res → Prop) → Prop
  | [.v (.agg [.w64 a, .w64 b, .int .i64 n]), .v (.agg [.w64 c, .w64 d, .int .i64 m])], R => R (.v (.bool (decide (n ≤ m) && matchB a b n c d)))
  | _, _ => False

noncomputable def pmakeCs : List (FuncId × Sx.Spec) := [(55, genSpec [none, none] cutF)]

noncomputable def prightCs : List (FuncId × Sx.Spec) := [(37, genSpec [none, none] makeF)]

theorem pmake_run (a b : BitVec 64) (n : Int) (r : AV) : run pmakeCs Try.prog 37 [.agg [.w64 a, .w64 b], .int .i64 n] [] [] (yields (.v r)) =
    (Go.Sx.AV.agg (List.map Go.Sx.canon1 (List.take (3 : Nat) (List.drop (0 : Nat) [Go.Sx.AV.w64 (a &&& Go.Proofs.Ytbhbokhdkapkpaa.L1.mkW n), Go.Sx.AV.w64 (b &&& Go.Proofs.Ytbhbokhdkapkpaa.L1.mkW (n - (64 : Int))), Go.Sx.AV.int Go.IntKind.i64 (if (128 : Int) < if (0 : Int) > n then (0 : Int) else n then (128 : Int) else if (0 : Int) > n then (0 : Int) else n)]))) = r) := by kernel_rfl

theorem pmakeCs_ok : ∀ e ∈ pmakeCs, SpecOK Try.prog e.1 e.2 := by
  intro e he
  simp only [pmakeCs, List.mem_cons, List.not_mem_nil, or_false] at he
  rcases he with rfl
  exact cut_ok

theorem pmake_ok : SpecOK Try.prog 37 (genSpec [none, none] makeF) := by
  refine genSpec_ok (run_ok (l := pmakeCs) pmakeCs_ok mixed noNG) fun l R hF => ?_
  unfold makeF at hF
  split at hF
  · rename_i a b n
    refine ⟨_, hF, rfl, [], ?_⟩
    show run pmakeCs Try.prog _ [.agg [.w64 a, .w64 b], .int .i64 n] [] _ _
    rw [pmake_run, clamp_eq]
    rfl
  · exact hF.elim

theorem clamp_iff {n : Int} : clamp n = n ↔ 0 ≤ n ∧ n ≤ 128 := by unfold clamp; omega

theorem prightCs_ok : ∀ e ∈ prightCs, SpecOK Try.prog e.1 e.2 := by
  intro e he
  simp only [prightCs, List.mem_cons, List.not_mem_nil, or_false] at he
  rcases he with rfl
  exact pmake_ok

theorem matchB_comm {a b c d : BitVec 64} {n : Int} : matchB a b n c d = matchB c d n a b := by
  unfold matchB
  rw [Bool.eq_iff_iff]
  simp only [Bool.and_eq_true, beq_iff_eq]
  exact ⟨fun h => ⟨h.1.symm, h.2.symm⟩, fun h => ⟨h.1.symm, h.2.symm⟩⟩

end Go.Proofs.Ytbhbokhdkapkpaa.L1
