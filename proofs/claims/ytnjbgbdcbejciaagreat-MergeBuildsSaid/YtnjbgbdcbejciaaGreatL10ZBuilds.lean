/-
  The law MergeBuilds holds, for every input: a table's entries are the document's, in each mode, and of no other one. No conditions.
-/
import Derived.Test.YtnjbgbdcbejciaaGreatL10c
import Derived.Test.YtnjbgbdcbejciaaGreatL10E
import Derived.Test.YtnjbgbdcbejciaaGreatL10FBuilds
namespace Go.Proofs.YtnjbgbdcbejciaaGreat.L1
open Go.Sx Go.Sx.M

set_option maxRecDepth 1000000 in
theorem mergeBuilds_holds : Rows.MergeBuildsSaid :=
  mergeBuilds_of fun A hl va b w ρ hp0 hp1 => by
    obtain ⟨hs, h⟩ := mergeBuilds10_law A b hl
    exact mergeBuilds_call (run_ok (l := l10Cs) l10Cs_ok mixed noNG) A va b h w hp0 hp1

#print axioms mergeBuilds_holds
end Go.Proofs.YtnjbgbdcbejciaaGreat.L1
