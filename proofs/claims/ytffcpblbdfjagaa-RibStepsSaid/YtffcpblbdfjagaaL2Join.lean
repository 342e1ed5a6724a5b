/-
  Layer 2: the contract of Join.
-/
import Derived.Test.YtffcpblbdfjagaaL2A
namespace Go.Proofs.Ytffcpblbdfjagaa.L1
open Go.Sx Go.Sx.M

/-- The least of three. -/
def min3 (a b c : Int) : Int := if c < (if b < a then b else a) then c else if b < a then b else a

def joinF : List Arg → (Res → Prop) → Prop
  | [.v (.agg [.w64 a, .w64 b, .int .i64 n]), .v (.agg [.w64 c, .w64 d, .int .i64 m])], R => R (.v (.agg [.w64 (a &&& mkW (min3 n m (com (bitAt a b) (bitAt c d) : Nat))), .w64 (b &&& mkW (min3 n m (com (bitAt a b) (bitAt c d) : Nat) - 64)), .int .i64 (clamp (min3 n m (com (bitAt a b) (bitAt c d) : Nat)))]))
  | _, _ => False

end Go.Proofs.Ytffcpblbdfjagaa.L1
