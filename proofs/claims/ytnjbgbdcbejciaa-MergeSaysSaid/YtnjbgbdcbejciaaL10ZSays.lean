/-
  The law MergeSays holds, for every input: a table's entries are simple and ordered, tell what the table tells, and are no more in a later mode. No conditions.
-/
import Derived.Test.YtnjbgbdcbejciaaL10c
import Derived.Test.YtnjbgbdcbejciaaL10H
import Derived.Test.YtnjbgbdcbejciaaL10FSays
namespace Go.Proofs.Ytnjbgbdcbejciaa.L1
open Go.Sx Go.Sx.M

set_option maxRecDepth 1000000 in
theorem mergeSays_holds : Rows.MergeSaysSaid :=
  mergeSays_of fun A hl va b0 b1 w ρ hp0 hp1 => by
    exact Exists.elim (mergeSays10_law A b0 b1 hl) fun hs h => mergeSays_call (run_ok (l := l10Cs) l10Cs_ok mixed noNG) A va b0 b1 h w hp0 hp1

#print axioms mergeSays_holds
end Go.Proofs.Ytnjbgbdcbejciaa.L1
