/-
  Layer 4: contracts of the document's Match, Covers, Meet.
-/
import Derived.Test.YtnjbgbdcbejciaaGreatL4A
import Derived.Test.YtnjbgbdcbejciaaGreatR
namespace Go.Proofs.YtnjbgbdcbejciaaGreat.L1
open Go.Sx Go.Sx.M

def bx (x y : BitVec 64) : Option Blk := some ⟨true, 4, 1, true, bitsOf x y⟩

end Go.Proofs.YtnjbgbdcbejciaaGreat.L1
