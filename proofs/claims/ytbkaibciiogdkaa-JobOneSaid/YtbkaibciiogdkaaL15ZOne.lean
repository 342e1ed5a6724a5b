/-
  The law JobOne holds, for every input: a step does the next move, if it tells no error; with none left, or nothing to do it with, that is told. No conditions.
-/
import Derived.Test.YtbkaibciiogdkaaL15E
import Derived.Test.YtbkaibciiogdkaaL15FOne
namespace Go.Proofs.Ytbkaibciiogdkaa.L1
open Go.Sx Go.Sx.M

set_option maxRecDepth 1000000 in
theorem jobOne_holds : Rows.JobOneSaid :=
  jobOne_of fun A _ va b hwf c w ρ hp0 hp1 => by
    exact Exists.elim (jobOne15_law A b c hwf) fun hs h => jobOne_call (run_ok (l := on15Cs) on15Cs_ok mixed noNG) A va b c h w hp0 hp1

#print axioms jobOne_holds
end Go.Proofs.Ytbkaibciiogdkaa.L1
