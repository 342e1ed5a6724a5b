/-
  The law JobParts holds, for every input: two jobs, one of the first moves and one of the others, ask what one of all does. No conditions.
-/
import Derived.Test.YtbkaibciiogdkaaL15J
import Derived.Test.YtbkaibciiogdkaaL15FParts
namespace Go.Proofs.Ytbkaibciiogdkaa.L1
open Go.Sx Go.Sx.M

set_option maxRecDepth 1000000 in
theorem jobParts_holds : Rows.JobPartsSaid :=
  jobParts_of fun A _ va b hwf w ρ hp0 hp1 => by
    exact Exists.elim (jobParts15_law A b hwf) fun hs h => jobParts_call (run_ok (l := pt15Ls) pt15Ls_ok mixed noNG) A va b h w hp0 hp1

#print axioms jobParts_holds
end Go.Proofs.Ytbkaibciiogdkaa.L1
