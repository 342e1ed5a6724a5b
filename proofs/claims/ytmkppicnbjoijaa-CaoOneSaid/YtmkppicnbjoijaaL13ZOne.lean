/-
  The law CaoOne holds, for every input: an entry that meets no other one goes into the first empty slot, with one write. No conditions.
-/
import Derived.Test.YtmkppicnbjoijaaL13c
import Derived.Test.YtmkppicnbjoijaaL13J
import Derived.Test.YtmkppicnbjoijaaL13FOne
namespace Go.Proofs.Ytmkppicnbjoijaa.L1
open Go.Sx Go.Sx.M

set_option maxRecDepth 1000000 in
theorem caoOne_holds : Rows.CaoOneSaid :=
  caoOne_of fun A _ va b0 b1 b2 b3 b4 b5 w ρ hp0 hp1 => by
    exact Exists.elim (caoOne13_law A b0 b1 b2 b3 b4 b5) fun hs h => caoOne_call (run_ok (l := l13Cs) l13Cs_ok mixed noNG) A va b0 b1 b2 b3 b4 b5 h w hp0 hp1

#print axioms caoOne_holds
end Go.Proofs.Ytmkppicnbjoijaa.L1
