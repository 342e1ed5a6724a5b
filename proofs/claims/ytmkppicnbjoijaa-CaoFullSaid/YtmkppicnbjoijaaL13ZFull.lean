/-
  The law CaoFull holds, for every input: of prefixes' entries, in slots that keep the order, there is no way just if all slots are valid. No conditions.
-/
import Derived.Test.YtmkppicnbjoijaaL13c
import Derived.Test.YtmkppicnbjoijaaL13FFull
namespace Go.Proofs.Ytmkppicnbjoijaa.L1
open Go.Sx Go.Sx.M

set_option maxRecDepth 1000000 in
theorem caoFull_holds : Rows.CaoFullSaid :=
  caoFull_of fun A _ va b0 b1 b2 b3 b4 b5 w ρ hp0 hp1 => by
    exact Exists.elim (caoFull13_law A b0 b1 b2 b3 b4 b5) fun hs h => caoFull_call (run_ok (l := l13Cs) l13Cs_ok mixed noNG) A va b0 b1 b2 b3 b4 b5 h w hp0 hp1

#print axioms caoFull_holds
end Go.Proofs.Ytmkppicnbjoijaa.L1
