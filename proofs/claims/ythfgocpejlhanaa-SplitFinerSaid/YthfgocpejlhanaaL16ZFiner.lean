/-
  The law SplitFiner holds, for every input: an address's bank by one bit more is twice that by fewer, or one more. No conditions.
-/
import Derived.Test.YthfgocpejlhanaaL16b
import Derived.Test.YthfgocpejlhanaaL16E
import Derived.Test.YthfgocpejlhanaaL16FFiner
namespace Go.Proofs.Ythfgocpejlhanaa.L1
open Go.Sx Go.Sx.M

set_option maxRecDepth 1000000 in
theorem splitFiner_holds : Rows.SplitFinerSaid :=
  splitFiner_of fun a b0 b1 w => by
    exact Exists.elim (splitFiner16_law a b0 b1) fun hs h => splitFiner_call (run_ok (l := l16Cs) l16Cs_ok mixed noNG) a b0 b1 h w 

#print axioms splitFiner_holds
end Go.Proofs.Ythfgocpejlhanaa.L1
