/-
  The law DiffTables holds, for every input: of two tables' entries each step tells what the one or the other tells. No conditions.
-/
import Derived.Test.YtnjbgbdcbejciaaL11c
import Derived.Test.YtnjbgbdcbejciaaL11FTables
namespace Go.Proofs.Ytnjbgbdcbejciaa.L1
open Go.Sx Go.Sx.M

set_option maxRecDepth 1000000 in
theorem diffTables_holds : Rows.DiffTablesSaid :=
  diffTables_of fun A hl va B hm vb c d0 d1 w ρ hp0 hp1 hp2 => by
    exact Exists.elim (diffTables11_law A B c d0 d1 hl hm) fun hs h => diffTables_call (run_ok (l := l11dCs) l11dCs_ok mixed noNG) A va B vb c d0 d1 h w hp0 hp1 hp2

#print axioms diffTables_holds
end Go.Proofs.Ytnjbgbdcbejciaa.L1
