/-
  The law SplitTells holds, for every input: what is told of any address by its bank's part of a row is what the row tells; a word matches an address of a bank just if it has to do with it. No conditions.
-/
import Derived.Test.YthfgocpejlhanaaL16b
import Derived.Test.YthfgocpejlhanaaL16H
import Derived.Test.YthfgocpejlhanaaL16FTells
namespace Go.Proofs.Ythfgocpejlhanaa.L1
open Go.Sx Go.Sx.M

set_option maxRecDepth 1000000 in
theorem splitTells_holds : Rows.SplitTellsSaid :=
  splitTells_of fun a B _ vb c0 c1 w ρ hp0 hp1 => by
    exact Exists.elim (splitTells16_law a B c0 c1) fun hs h => splitTells_call (run_ok (l := l16Cs) l16Cs_ok mixed noNG) a B vb c0 c1 h w hp0 hp1

#print axioms splitTells_holds
end Go.Proofs.Ythfgocpejlhanaa.L1
