/-
  The law MergeMerges holds, for every input: a row merged is the document's, and whether it is simple. No conditions.
-/
import Derived.Test.YteempafiepfhnaaL10c
import Derived.Test.YteempafiepfhnaaL10E
import Derived.Test.YteempafiepfhnaaL10FMerges
namespace Go.Proofs.Yteempafiepfhnaa.L1
open Go.Sx Go.Sx.M

set_option maxRecDepth 1000000 in
theorem mergeMerges_holds : Rows.MergeMergesSaid :=
  mergeMerges_of fun A hl va w ρ hp0 hp1 => by
    exact Exists.elim (mergeMerges10_law A hl) fun hs h => mergeMerges_call (run_ok (l := l10Cs) l10Cs_ok mixed noNG) A va h w hp0 hp1

#print axioms mergeMerges_holds
end Go.Proofs.Yteempafiepfhnaa.L1
