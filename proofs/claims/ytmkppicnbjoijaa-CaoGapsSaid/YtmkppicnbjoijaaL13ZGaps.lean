/-
  The law CaoGaps holds, for every input: whether slots keep the order, and where any entry may stand, is the document's; of prefixes no gap ends ahead of its beginning. No conditions.
-/
import Derived.Test.YtmkppicnbjoijaaL13c
import Derived.Test.YtmkppicnbjoijaaL13FGaps
namespace Go.Proofs.Ytmkppicnbjoijaa.L1
open Go.Sx Go.Sx.M

set_option maxRecDepth 1000000 in
theorem caoGaps_holds : Rows.CaoGapsSaid :=
  caoGaps_of fun A _ va b0 b1 b2 b3 b4 b5 w ρ hp0 hp1 => by
    exact Exists.elim (caoGaps13_law A b0 b1 b2 b3 b4 b5) fun hs h => caoGaps_call (run_ok (l := l13Cs) l13Cs_ok mixed noNG) A va b0 b1 b2 b3 b4 b5 h w hp0 hp1

#print axioms caoGaps_holds
end Go.Proofs.Ytmkppicnbjoijaa.L1
