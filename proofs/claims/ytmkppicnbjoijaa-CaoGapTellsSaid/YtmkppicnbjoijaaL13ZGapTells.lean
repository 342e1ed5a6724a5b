/-
  The law CaoGapTells holds, for every input: an entry may stand in each empty slot of its gap, and in no other one. No conditions.
-/
import Derived.Test.YtmkppicnbjoijaaL13c
import Derived.Test.YtmkppicnbjoijaaL13FGapTells
namespace Go.Proofs.Ytmkppicnbjoijaa.L1
open Go.Sx Go.Sx.M

set_option maxRecDepth 1000000 in
theorem caoGapTells_holds : Rows.CaoGapTellsSaid :=
  caoGapTells_of fun A _ va b0 b1 b2 b3 b4 b5 c w ρ hp0 hp1 => by
    exact Exists.elim (caoGapTells13_law A b0 b1 b2 b3 b4 b5 c) fun hs h => caoGapTells_call (run_ok (l := k13Cs) k13Cs_ok mixed noNG) A va b0 b1 b2 b3 b4 b5 c h w hp0 hp1

#print axioms caoGapTells_holds
end Go.Proofs.Ytmkppicnbjoijaa.L1
