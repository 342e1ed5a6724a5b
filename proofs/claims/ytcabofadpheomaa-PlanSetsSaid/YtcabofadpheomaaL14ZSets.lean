/-
  The law PlanSets holds, for every input: a Set changes just the actions of what is alike, a Drop leaves none that is alike. No conditions.
-/
import Derived.Test.YtcabofadpheomaaL14b
import Derived.Test.YtcabofadpheomaaL14H
import Derived.Test.YtcabofadpheomaaL14FSets
namespace Go.Proofs.Ytcabofadpheomaa.L1
open Go.Sx Go.Sx.M

set_option maxRecDepth 1000000 in
theorem planSets_holds : Rows.PlanSetsSaid :=
  planSets_of fun a B _ vb c0 c1 c2 c3 c4 c5 w ρ hp0 hp1 => by
    exact Exists.elim (planSets14_law a B ⟨c0, c1, c2, c3, c4, c5⟩) fun hs h => planSets_call (run_ok (l := l14Cs) l14Cs_ok mixed noNG) a B vb c0 c1 c2 c3 c4 c5 h w hp0 hp1

#print axioms planSets_holds
end Go.Proofs.Ytcabofadpheomaa.L1
