/-
  The law PlanTwins holds, for every input: the writes that empty what is alike to a lower slot's entry change nothing that is told; behind them there is none. No conditions.
-/
import Derived.Test.YtcabofadpheomaaL14b
import Derived.Test.YtcabofadpheomaaL14G
import Derived.Test.YtcabofadpheomaaL14FTwins
namespace Go.Proofs.Ytcabofadpheomaa.L1
open Go.Sx Go.Sx.M

set_option maxRecDepth 1000000 in
theorem planTwins_holds : Rows.PlanTwinsSaid :=
  planTwins_of fun A _ va b0 b1 w ρ hp0 hp1 => by
    exact Exists.elim (planTwins14_law A b0 b1) fun hs h => planTwins_call (run_ok (l := l14Cs) l14Cs_ok mixed noNG) A va b0 b1 h w hp0 hp1

#print axioms planTwins_holds
end Go.Proofs.Ytcabofadpheomaa.L1
