/-
  The law DiffSteps holds, for every input: the steps between two rows are the document's, and how many of each kind. No conditions.
-/
import Derived.Test.YtnjbgbdcbejciaaL11b
import Derived.Test.YtnjbgbdcbejciaaL11H
import Derived.Test.YtnjbgbdcbejciaaL11FSteps
namespace Go.Proofs.Ytnjbgbdcbejciaa.L1
open Go.Sx Go.Sx.M

set_option maxRecDepth 1000000 in
theorem diffSteps_holds : Rows.DiffStepsSaid :=
  diffSteps_of fun A hl va B hm vb w ρ hp0 hp1 hp2 => by
    exact Exists.elim (diffSteps11_law A B hl hm) fun hs h => diffSteps_call (run_ok (l := l11Cs) l11Cs_ok mixed noNG) A va B vb h w hp0 hp1 hp2

#print axioms diffSteps_holds
end Go.Proofs.Ytnjbgbdcbejciaa.L1
