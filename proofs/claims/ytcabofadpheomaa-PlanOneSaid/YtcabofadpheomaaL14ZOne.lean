/-
  The law PlanOne holds, for every input: the writes of any step, in any slots, of either order, are the document's, or why there are none. No conditions.
-/
import Derived.Test.YtcabofadpheomaaL14b
import Derived.Test.YtcabofadpheomaaL14E
import Derived.Test.YtcabofadpheomaaL14FOne
namespace Go.Proofs.Ytcabofadpheomaa.L1
open Go.Sx Go.Sx.M

set_option maxRecDepth 1000000 in
theorem planOne_holds : Rows.PlanOneSaid :=
  planOne_of fun a B _ vb c0 c1 c2 c3 c4 c5 c6 w ρ hp0 hp1 => by
    exact Exists.elim (planOne14_law a B c0 c1 c2 c3 c4 c5 c6) fun hs h => planOne_call (run_ok (l := l14Cs) l14Cs_ok mixed noNG) a B vb c0 c1 c2 c3 c4 c5 c6 h w hp0 hp1

#print axioms planOne_holds
end Go.Proofs.Ytcabofadpheomaa.L1
