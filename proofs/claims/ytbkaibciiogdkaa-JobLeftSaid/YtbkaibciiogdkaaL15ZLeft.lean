/-
  The law JobLeft holds, for every input: what is left, run as a job of its own, asks what the job itself would. No conditions.
-/
import Derived.Test.YtbkaibciiogdkaaL15H
import Derived.Test.YtbkaibciiogdkaaL15FLeft
namespace Go.Proofs.Ytbkaibciiogdkaa.L1
open Go.Sx Go.Sx.M

set_option maxRecDepth 1000000 in
theorem jobLeft_holds : Rows.JobLeftSaid :=
  jobLeft_of fun A _ va b hwf w ρ hp0 hp1 => by
    exact Exists.elim (jobLeft15_law A b hwf) fun hs h => jobLeft_call (run_ok (l := lf15Cs) lf15Cs_ok mixed noNG) A va b h w hp0 hp1

#print axioms jobLeft_holds
end Go.Proofs.Ytbkaibciiogdkaa.L1
