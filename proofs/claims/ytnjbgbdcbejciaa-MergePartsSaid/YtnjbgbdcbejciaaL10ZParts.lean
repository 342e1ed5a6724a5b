/-
  The law MergeParts holds, for every input: each entry is covered by one of the merged row, of its length and action. No conditions.
-/
import Derived.Test.YtnjbgbdcbejciaaL10c
import Derived.Test.YtnjbgbdcbejciaaL10H
import Derived.Test.YtnjbgbdcbejciaaL10FParts
namespace Go.Proofs.Ytnjbgbdcbejciaa.L1
open Go.Sx Go.Sx.M

set_option maxRecDepth 1000000 in
theorem mergeParts_holds : Rows.MergePartsSaid :=
  mergeParts_of fun A hl va w ρ hp0 hp1 => by
    exact Exists.elim (mergeParts10_law A hl) fun hs h => mergeParts_call (run_ok (l := l10Cs) l10Cs_ok mixed noNG) A va h w hp0 hp1

#print axioms mergeParts_holds
end Go.Proofs.Ytnjbgbdcbejciaa.L1
