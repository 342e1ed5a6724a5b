/-
  The law PlanInserts holds, for every input: what has an entry stand is what a step that adds it does; of no order there is nothing. No conditions.
-/
import Derived.Test.YtcabofadpheomaaL14b
import Derived.Test.YtcabofadpheomaaL14E
import Derived.Test.YtcabofadpheomaaL14FInserts
namespace Go.Proofs.Ytcabofadpheomaa.L1
open Go.Sx Go.Sx.M

set_option maxRecDepth 1000000 in
theorem planInserts_holds : Rows.PlanInsertsSaid :=
  planInserts_of fun a B _ vb c0 c1 c2 c3 c4 c5 w ρ hp0 hp1 => by
    exact Exists.elim (planInserts14_law a B c0 c1 c2 c3 c4 c5) fun hs h => planInserts_call (run_ok (l := l14Cs) l14Cs_ok mixed noNG) a B vb c0 c1 c2 c3 c4 c5 h w hp0 hp1

#print axioms planInserts_holds
end Go.Proofs.Ytcabofadpheomaa.L1
