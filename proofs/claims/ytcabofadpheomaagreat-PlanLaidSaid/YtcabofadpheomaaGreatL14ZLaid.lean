/-
 The law PlanLaid holds, for every input: whatever order entries come in, slots that keep an order tell the same of any address. No conditions.
-/
import Derived.Test.YtcabofadpheomaaGreatL14VL
import Derived.Test.YtcabofadpheomaaGreatL14M
import Derived.Test.YtcabofadpheomaaGreatL14FLaid
namespace Go.Proofs.YtcabofadpheomaaGreat.L1
open Go.Sx Go.Sx.M

set_option maxRecDepth 1000000 in
theorem planLaid_holds:Rows.PlanLaidSaid:=
 An fun a B hl vb c0 c1 w ρ hp0 hp1=>by
  exact Exists.elim (sQ a B c0 c1 hl) fun hs h=>planLaid_call (eS (l:=sU) GK mixed noNG) a B vb c0 c1 h w hp0 hp1

#print axioms planLaid_holds
end Go.Proofs.YtcabofadpheomaaGreat.L1
