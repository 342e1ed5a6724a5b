/-
  The law SplitBanks holds, for every input: an address's bank, and the banks that any word has to do with, are the document's, of any index. No conditions.
-/
import Derived.Test.YthfgocpejlhanaaL16b
import Derived.Test.YthfgocpejlhanaaL16E
import Derived.Test.YthfgocpejlhanaaL16FBanks
namespace Go.Proofs.Ythfgocpejlhanaa.L1
open Go.Sx Go.Sx.M

set_option maxRecDepth 1000000 in
theorem splitBanks_holds : Rows.SplitBanksSaid :=
  splitBanks_of fun a b0 b1 b2 b3 c0 c1 w => by
    exact Exists.elim (splitBanks16_law a b0 b1 b2 b3 c0 c1) fun hs h => splitBanks_call (run_ok (l := l16Cs) l16Cs_ok mixed noNG) a b0 b1 b2 b3 c0 c1 h w 

#print axioms splitBanks_holds
end Go.Proofs.Ythfgocpejlhanaa.L1
