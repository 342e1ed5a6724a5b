/-
  The law SplitAll holds, for every input: the parts of all banks, together, have each entry as often as it has to do with banks; of one bank there is the row itself. No conditions.
-/
import Derived.Test.YthfgocpejlhanaaL16b
import Derived.Test.YthfgocpejlhanaaL16J
import Derived.Test.YthfgocpejlhanaaL16FAll
namespace Go.Proofs.Ythfgocpejlhanaa.L1
open Go.Sx Go.Sx.M

set_option maxRecDepth 1000000 in
theorem splitAll_holds : Rows.SplitAllSaid :=
  splitAll_of fun a B _ vb w ρ hp0 hp1 => by
    exact Exists.elim (splitAll16_law a B) fun hs h => splitAll_call (run_ok (l := l16Cs) l16Cs_ok mixed noNG) a B vb h w hp0 hp1

#print axioms splitAll_holds
end Go.Proofs.Ythfgocpejlhanaa.L1
