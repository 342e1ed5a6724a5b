/-
  The law CaoLengths holds, for every input: slots that keep the order of lengths keep that of chains; in them one has a gap that is no less. No conditions.
-/
import Derived.Test.YtmkppicnbjoijaaL13c
import Derived.Test.YtmkppicnbjoijaaL13FLengths
namespace Go.Proofs.Ytmkppicnbjoijaa.L1
open Go.Sx Go.Sx.M

set_option maxRecDepth 1000000 in
theorem caoLengths_holds : Rows.CaoLengthsSaid :=
  caoLengths_of fun A _ va b0 b1 b2 b3 b4 b5 w ρ hp0 hp1 => by
    exact Exists.elim (caoLengths13_law A b0 b1 b2 b3 b4 b5) fun hs h => caoLengths_call (run_ok (l := k13Cs) k13Cs_ok mixed noNG) A va b0 b1 b2 b3 b4 b5 h w hp0 hp1

#print axioms caoLengths_holds
end Go.Proofs.Ytmkppicnbjoijaa.L1
