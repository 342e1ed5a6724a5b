/-
 The law PlanTells holds, for every input: behind any of the writes the order is kept, and what is told is what the one or the other table tells. No conditions.
-/
import Derived.Test.YtcabofadpheomaaGreatL14VT
import Derived.Test.YtcabofadpheomaaGreatL14O
import Derived.Test.YtcabofadpheomaaGreatL14FTells
namespace Go.Proofs.YtcabofadpheomaaGreat.L1
open Go.Sx Go.Sx.M

set_option maxRecDepth 1000000 in
theorem planTells_holds:Rows.PlanTellsSaid:=
 xM fun a b c D hl vd E hm ve f0 f1 w ρ hp0 hp1 hp2=>by
  exact Exists.elim (rv a b c D E f0 f1 hl hm) fun hs h=>planTells_call (eS (l:=sM) GD mixed noNG) a b c D vd E ve f0 f1 h w hp0 hp1 hp2

#print axioms planTells_holds
end Go.Proofs.YtcabofadpheomaaGreat.L1
