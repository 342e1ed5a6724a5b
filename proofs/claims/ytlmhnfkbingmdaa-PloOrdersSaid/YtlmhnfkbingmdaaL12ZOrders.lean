/-
  The law PloOrders holds, for every input: slots that keep the order of lengths are ordered; as many lengths as there are take no more than as many slots. No conditions.
-/
import Derived.Test.YtlmhnfkbingmdaaL12b
import Derived.Test.YtlmhnfkbingmdaaL12E
import Derived.Test.YtlmhnfkbingmdaaL12FOrders
namespace Go.Proofs.Ytlmhnfkbingmdaa.L1
open Go.Sx Go.Sx.M

set_option maxRecDepth 1000000 in
theorem ploOrders_holds : Rows.PloOrdersSaid :=
  ploOrders_of fun A _ va w ρ hp0 hp1 => by
    exact Exists.elim (ploOrders12_law A) fun hs h => ploOrders_call (run_ok (l := l12Cs) l12Cs_ok mixed noNG) A va h w hp0 hp1

#print axioms ploOrders_holds
end Go.Proofs.Ytlmhnfkbingmdaa.L1
