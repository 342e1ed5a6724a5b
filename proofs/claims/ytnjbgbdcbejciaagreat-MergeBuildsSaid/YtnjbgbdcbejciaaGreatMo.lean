/-
  What is said of maps holds of the program's: of none anything is said here.
-/
import Derived.Test.YtnjbgbdcbejciaaGreatSxG
import Derived.Test.YtnjbgbdcbejciaaGreatRows
namespace Go.Proofs.YtnjbgbdcbejciaaGreat.L1
open Go.Sx

theorem maps_ok : MapsOK Tryz.prog := ⟨fun h => h.elim, fun h => h.elim, fun h => h.elim, fun h => h.elim⟩

end Go.Proofs.YtnjbgbdcbejciaaGreat.L1
