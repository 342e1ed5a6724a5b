/-
  The law DiffTells holds, for every input: of two simple rows each step tells what the one or the other tells. No conditions.
-/
import Derived.Test.YtnjbgbdcbejciaaL11b
import Derived.Test.YtnjbgbdcbejciaaL11E
import Derived.Test.YtnjbgbdcbejciaaL11FTells
namespace Go.Proofs.Ytnjbgbdcbejciaa.L1
open Go.Sx Go.Sx.M

set_option maxRecDepth 1000000 in
theorem diffTells_holds : Rows.DiffTellsSaid :=
  diffTells_of fun A hl va B hm vb c0 c1 w ρ hp0 hp1 hp2 => by
    exact Exists.elim (diffTells11_law A B c0 c1 hl hm) fun hs h => diffTells_call (run_ok (l := l11Cs) l11Cs_ok mixed noNG) A va B vb c0 c1 h w hp0 hp1 hp2

#print axioms diffTells_holds
end Go.Proofs.Ytnjbgbdcbejciaa.L1
