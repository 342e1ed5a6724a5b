/-
  Layer 5: what the contracts of the program's calls on entries say.
-/
import Derived.Test.YteagcgocmdjobaaL5C
namespace Go.Proofs.Yteagcgocmdjobaa.L1
open Go.Sx Go.Sx.M

def erightF : List Arg → (Res → Prop) → Prop
  | [.v (.agg [.w64 v, .w64 w, .w64 m, .w64 n, .int .i64 k, .int .i64 j])], R => R (.v (.bool (rtE ⟨v, w, m, n, k, j⟩)))
  | _, _ => False

def eofF : List Arg → (Res → Prop) → Prop
  | [.v (.agg [.w64 a, .w64 b, .int .i64 k]), .v (.int .i64 j)], R => R (.v (.agg [.w64 (a &&& mkW k), .w64 (b &&& mkW (k - 64)), .w64 (mkW k), .w64 (mkW (k - 64)), .int .i64 (clamp k), .int .i64 j]))
  | _, _ => False

def efirstF : List Arg → (Res → Prop) → Prop
  | [.row r_l, .v (.agg [.w64 a, .w64 b])], R => r_l = (deE r_l).map enE ∧ (deE r_l).length ≤ 9223372036854775807 ∧ R (.v (.tuple [.int .i64 (mx0 (fsI (deE r_l) a b)), .bool (decide (fsI (deE r_l) a b ≥ 0))]))
  | _, _ => False

def ebestF : List Arg → (Res → Prop) → Prop
  | [.row r_l, .v (.agg [.w64 a, .w64 b])], R => r_l = (deE r_l).map enE ∧ (deE r_l).length ≤ 9223372036854775807 ∧ R (.v (.tuple [.int .i64 (mx0 (bsI (deE r_l) a b)), .bool (decide (bsI (deE r_l) a b ≥ 0))]))
  | _, _ => False

end Go.Proofs.Yteagcgocmdjobaa.L1
