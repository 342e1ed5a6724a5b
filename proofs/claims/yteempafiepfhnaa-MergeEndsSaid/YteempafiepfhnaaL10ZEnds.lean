/-
  The law MergeEnds holds, for every input: what was merged, merged again, is itself. No conditions.
-/
import Derived.Test.YteempafiepfhnaaL10c
import Derived.Test.YteempafiepfhnaaL10E
import Derived.Test.YteempafiepfhnaaL10FEnds
namespace Go.Proofs.Yteempafiepfhnaa.L1
open Go.Sx Go.Sx.M

set_option maxRecDepth 1000000 in
theorem mergeEnds_holds : Rows.MergeEndsSaid :=
  mergeEnds_of fun A hl va w ρ hp0 hp1 => by
    exact Exists.elim (mergeEnds10_law A hl) fun hs h => mergeEnds_call (run_ok (l := l10Cs) l10Cs_ok mixed noNG) A va h w hp0 hp1

#print axioms mergeEnds_holds
end Go.Proofs.Yteempafiepfhnaa.L1
