/-
  The law PloInserts holds, for every input: the writes that have any entry stand, in any slots, are the document's, or why there are none. No conditions.
-/
import Derived.Test.YtlmhnfkbingmdaaL12b
import Derived.Test.YtlmhnfkbingmdaaL12E
import Derived.Test.YtlmhnfkbingmdaaL12FInserts
namespace Go.Proofs.Ytlmhnfkbingmdaa.L1
open Go.Sx Go.Sx.M

set_option maxRecDepth 1000000 in
theorem ploInserts_holds : Rows.PloInsertsSaid :=
  ploInserts_of fun A _ va b0 b1 b2 b3 b4 b5 w ρ hp0 hp1 => by
    exact Exists.elim (ploInserts12_law A b0 b1 b2 b3 b4 b5) fun hs h => ploInserts_call (run_ok (l := l12Cs) l12Cs_ok mixed noNG) A va b0 b1 b2 b3 b4 b5 h w hp0 hp1

#print axioms ploInserts_holds
end Go.Proofs.Ytlmhnfkbingmdaa.L1
