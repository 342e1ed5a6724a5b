/-
  Layer 1: contracts of the program's Bit and With.
-/
import Derived.Test.YtffcpblbdfjagaaL1Ref
namespace Go.Proofs.Ytffcpblbdfjagaa.L1
open Go.Sx Go.Sx.M

def bitF : List Arg → (Res → Prop) → Prop
  | [.v (.agg [.w64 a, .w64 b]), .v (.int .i64 k)], R => R (.v (.bool (bitZ a b k)))
  | _, _ => False

def withF : List Arg → (Res → Prop) → Prop
  | [.v (.agg [.w64 a, .w64 b]), .v (.int .i64 k), .v (.bool c)], R => R (.v (.agg [.w64 (put a k c), .w64 (put b (k - 64) c)]))
  | _, _ => False

theorem mod_eq {k : Int} (h0 : 0 ≤ k) : k.tmod 64 = k % 64 := Int.tmod_eq_emod_of_nonneg h0
theorem div_eq {k : Int} (h0 : 0 ≤ k) : k.tdiv 64 = k / 64 := Int.tdiv_eq_ediv_of_nonneg h0

end Go.Proofs.Ytffcpblbdfjagaa.L1
