/-
 The law PlanFew holds, for every input: a route takes at most as many writes as there are lengths, or as the longest chain has, and one. No conditions.
-/
import Derived.Test.YtcabofadpheomaaGreatL14VF
import Derived.Test.YtcabofadpheomaaGreatL14c
import Derived.Test.YtcabofadpheomaaGreatL14FFew
namespace Go.Proofs.YtcabofadpheomaaGreat.L1
open Go.Sx Go.Sx.M

set_option maxRecDepth 1000000 in
theorem planFew_holds:Rows.PlanFewSaid:=
 Dd fun a b C hl vc d0 d1 d2 d3 w ρ hp0 hp1=>by
  exact Exists.elim (vf a b C ⟨⟨d0,d1,d2⟩,d3⟩ hl) fun hs h=>planFew_call (eS (l:=sW) GL mixed noNG) a b C vc d0 d1 d2 d3 h w hp0 hp1

#print axioms planFew_holds
end Go.Proofs.YtcabofadpheomaaGreat.L1
