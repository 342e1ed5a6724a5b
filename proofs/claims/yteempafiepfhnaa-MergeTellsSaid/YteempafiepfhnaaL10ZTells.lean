/-
  The law MergeTells holds, for every input: a simple row, merged, tells the same, is simple and no longer. No conditions.
-/
import Derived.Test.YteempafiepfhnaaL10c
import Derived.Test.YteempafiepfhnaaL10G
import Derived.Test.YteempafiepfhnaaL10FTells
namespace Go.Proofs.Yteempafiepfhnaa.L1
open Go.Sx Go.Sx.M

set_option maxRecDepth 1000000 in
theorem mergeTells_holds : Rows.MergeTellsSaid :=
  mergeTells_of fun A hl va b0 b1 w ρ hp0 hp1 => by
    exact Exists.elim (mergeTells10_law A b0 b1 hl) fun hs h => mergeTells_call (run_ok (l := l10Cs) l10Cs_ok mixed noNG) A va b0 b1 h w hp0 hp1

#print axioms mergeTells_holds
end Go.Proofs.Yteempafiepfhnaa.L1
