/-
  Layer 5: the contract of the document's Sort.
-/
import Derived.Test.YteagcgocmdjobaaL5B
namespace Go.Proofs.Yteagcgocmdjobaa.L1
open Go.Sx Go.Sx.M

end Go.Proofs.Yteagcgocmdjobaa.L1
