/-
  What is said of maps holds of the program's: of none anything is said here.
-/
import Derived.Test.YthfgocpejlhanaaSxG
import Derived.Test.YthfgocpejlhanaaRows
namespace Go.Proofs.Ythfgocpejlhanaa.L1
open Go.Sx

theorem maps_ok : MapsOK Try.prog := ⟨fun h => h.elim, fun _ h => h.elim, fun h => h.elim, fun h => h.elim, fun h => h.elim⟩

end Go.Proofs.Ythfgocpejlhanaa.L1
