/-
  The law CaoInserts holds, for every input: the writes that have any entry stand, in any slots, are the document's, or why there are none. No conditions.
-/
import Derived.Test.YtmkppicnbjoijaaL13c
import Derived.Test.YtmkppicnbjoijaaL13FInserts
namespace Go.Proofs.Ytmkppicnbjoijaa.L1
open Go.Sx Go.Sx.M

set_option maxRecDepth 1000000 in
theorem caoInserts_holds : Rows.CaoInsertsSaid :=
  caoInserts_of fun A _ va b0 b1 b2 b3 b4 b5 w ρ hp0 hp1 => by
    exact Exists.elim (caoInserts13_law A b0 b1 b2 b3 b4 b5) fun hs h => caoInserts_call (run_ok (l := k13Cs) k13Cs_ok mixed noNG) A va b0 b1 b2 b3 b4 b5 h w hp0 hp1

#print axioms caoInserts_holds
end Go.Proofs.Ytmkppicnbjoijaa.L1
