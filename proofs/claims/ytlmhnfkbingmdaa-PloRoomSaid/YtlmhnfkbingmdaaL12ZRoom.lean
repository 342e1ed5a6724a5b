/-
  The law PloRoom holds, for every input: there is no way just if all slots are valid; into empty slots it goes with one write. No conditions.
-/
import Derived.Test.YtlmhnfkbingmdaaL12b
import Derived.Test.YtlmhnfkbingmdaaL12G
import Derived.Test.YtlmhnfkbingmdaaL12FRoom
namespace Go.Proofs.Ytlmhnfkbingmdaa.L1
open Go.Sx Go.Sx.M

set_option maxRecDepth 1000000 in
theorem ploRoom_holds : Rows.PloRoomSaid :=
  ploRoom_of fun A _ va b0 b1 b2 b3 b4 b5 w ρ hp0 hp1 => by
    exact Exists.elim (ploRoom12_law A b0 b1 b2 b3 b4 b5) fun hs h => ploRoom_call (run_ok (l := l12Cs) l12Cs_ok mixed noNG) A va b0 b1 b2 b3 b4 b5 h w hp0 hp1

#print axioms ploRoom_holds
end Go.Proofs.Ytlmhnfkbingmdaa.L1
