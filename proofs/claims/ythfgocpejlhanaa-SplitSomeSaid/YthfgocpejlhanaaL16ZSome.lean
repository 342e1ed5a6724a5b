/-
  The law SplitSome holds, for every input: some address of each bank that a word has to do with is matched by it. No conditions.
-/
import Derived.Test.YthfgocpejlhanaaL16b
import Derived.Test.YthfgocpejlhanaaL16I
import Derived.Test.YthfgocpejlhanaaL16FSome
namespace Go.Proofs.Ythfgocpejlhanaa.L1
open Go.Sx Go.Sx.M

set_option maxRecDepth 1000000 in
theorem splitSome_holds : Rows.SplitSomeSaid :=
  splitSome_of fun a b0 b1 b2 b3 c w => by
    exact Exists.elim (splitSome16_law a b0 b1 b2 b3 c) fun hs h => splitSome_call (run_ok (l := l16Cs) l16Cs_ok mixed noNG) a b0 b1 b2 b3 c h w 

#print axioms splitSome_holds
end Go.Proofs.Ythfgocpejlhanaa.L1
