/-
  Layer 4: the contract of the document's Merge.
-/
import Derived.Test.YtnjbgbdcbejciaaL4c
import Derived.Test.YtnjbgbdcbejciaaMa
namespace Go.Proofs.Ytnjbgbdcbejciaa.L1
open Go.Sx Go.Sx.M

end Go.Proofs.Ytnjbgbdcbejciaa.L1
