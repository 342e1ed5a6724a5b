/-
  The law PloGapTells holds, for every input: an entry may stand in each empty slot of its gap, and in no other one. No conditions.
-/
import Derived.Test.YtlmhnfkbingmdaaL12b
import Derived.Test.YtlmhnfkbingmdaaL12G
import Derived.Test.YtlmhnfkbingmdaaL12FGapTells
namespace Go.Proofs.Ytlmhnfkbingmdaa.L1
open Go.Sx Go.Sx.M

set_option maxRecDepth 1000000 in
theorem ploGapTells_holds : Rows.PloGapTellsSaid :=
  ploGapTells_of fun A _ va b0 b1 b2 b3 b4 b5 c w ρ hp0 hp1 => by
    exact Exists.elim (ploGapTells12_law A b0 b1 b2 b3 b4 b5 c) fun hs h => ploGapTells_call (run_ok (l := l12Cs) l12Cs_ok mixed noNG) A va b0 b1 b2 b3 b4 b5 c h w hp0 hp1

#print axioms ploGapTells_holds
end Go.Proofs.Ytlmhnfkbingmdaa.L1
