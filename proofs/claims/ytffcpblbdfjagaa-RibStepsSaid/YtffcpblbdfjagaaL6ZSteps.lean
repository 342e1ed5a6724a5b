/-
  The law RibSteps holds, for every input: a route that was put is found, and dropped it is not; put again nothing changes. No conditions.
-/
import Derived.Test.YtffcpblbdfjagaaL6Q
import Derived.Test.YtffcpblbdfjagaaL6O
import Derived.Test.YtffcpblbdfjagaaL6FSteps
namespace Go.Proofs.Ytffcpblbdfjagaa.L1
open Go.Sx Go.Sx.M

theorem ribSteps_holds : Rows.RibStepsSaid :=
  ribSteps_of fun A hl va b0 b1 b2 b3 w ρ hp0 hp1 => by
    obtain ⟨hs, h⟩ := steps6_law A b0 b1 b2 b3 hl
    exact ribSteps_call (run_ok (l := l6Cs) l6Cs_ok mixed noNG) A va b0 b1 b2 b3 h w hp0 hp1

#print axioms ribSteps_holds
end Go.Proofs.Ytffcpblbdfjagaa.L1
