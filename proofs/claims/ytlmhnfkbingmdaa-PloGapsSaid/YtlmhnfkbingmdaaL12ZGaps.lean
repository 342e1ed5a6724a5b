/-
  The law PloGaps holds, for every input: whether slots keep the order, how many lengths they have, and where one of any length may stand, is the document's. No conditions.
-/
import Derived.Test.YtlmhnfkbingmdaaL12b
import Derived.Test.YtlmhnfkbingmdaaL12E
import Derived.Test.YtlmhnfkbingmdaaL12FGaps
namespace Go.Proofs.Ytlmhnfkbingmdaa.L1
open Go.Sx Go.Sx.M

set_option maxRecDepth 1000000 in
theorem ploGaps_holds : Rows.PloGapsSaid :=
  ploGaps_of fun A _ va b w ρ hp0 hp1 => by
    exact Exists.elim (ploGaps12_law A b) fun hs h => ploGaps_call (run_ok (l := l12Cs) l12Cs_ok mixed noNG) A va b h w hp0 hp1

#print axioms ploGaps_holds
end Go.Proofs.Ytlmhnfkbingmdaa.L1
