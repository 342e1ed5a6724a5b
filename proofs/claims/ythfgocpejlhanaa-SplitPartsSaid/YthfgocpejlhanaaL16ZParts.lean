/-
  The law SplitParts holds, for every input: the entries that have to do with any bank are the document's, in order; how often they stand more than once, too; the row is not changed. No conditions.
-/
import Derived.Test.YthfgocpejlhanaaL16b
import Derived.Test.YthfgocpejlhanaaL16G
import Derived.Test.YthfgocpejlhanaaL16FParts
namespace Go.Proofs.Ythfgocpejlhanaa.L1
open Go.Sx Go.Sx.M

set_option maxRecDepth 1000000 in
theorem splitParts_holds : Rows.SplitPartsSaid :=
  splitParts_of fun a b C _ vc w ρ hp0 hp1 => by
    exact Exists.elim (splitParts16_law a b C) fun hs h => splitParts_call (run_ok (l := l16Cs) l16Cs_ok mixed noNG) a b C vc h w hp0 hp1

#print axioms splitParts_holds
end Go.Proofs.Ythfgocpejlhanaa.L1
