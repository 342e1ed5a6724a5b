/-
  The law PlanAll holds, for every input: the writes of any steps are those of each, one behind the other; the first error is told. No conditions.
-/
import Derived.Test.YtcabofadpheomaaL14b
import Derived.Test.YtcabofadpheomaaL14E
import Derived.Test.YtcabofadpheomaaL14FAll
namespace Go.Proofs.Ytcabofadpheomaa.L1
open Go.Sx Go.Sx.M

set_option maxRecDepth 1000000 in
theorem planAll_holds : Rows.PlanAllSaid :=
  planAll_of fun a B _ vb C _ vc w ρ hp0 hp1 hp2 => by
    exact Exists.elim (planAll14_law a B C) fun hs h => planAll_call (run_ok (l := l14Cs) l14Cs_ok mixed noNG) a B vb C vc h w hp0 hp1 hp2

#print axioms planAll_holds
end Go.Proofs.Ytcabofadpheomaa.L1
