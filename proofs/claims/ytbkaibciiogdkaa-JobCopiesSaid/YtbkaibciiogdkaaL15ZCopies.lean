/-
  The law JobCopies holds, for every input: a copy goes on of its own; the row that was handed in is not changed. No conditions.
-/
import Derived.Test.YtbkaibciiogdkaaL15I
import Derived.Test.YtbkaibciiogdkaaL15FCopies
namespace Go.Proofs.Ytbkaibciiogdkaa.L1
open Go.Sx Go.Sx.M

set_option maxRecDepth 1000000 in
theorem jobCopies_holds : Rows.JobCopiesSaid :=
  jobCopies_of fun A _ va b hwf c hwg w ρ hp0 hp1 => by
    exact Exists.elim (jobCopies15_law A b c hwf hwg) fun hs h => jobCopies_call (run_ok (l := cp15Ls) cp15Ls_ok mixed noNG) A va b c h w hp0 hp1

#print axioms jobCopies_holds
end Go.Proofs.Ytbkaibciiogdkaa.L1
