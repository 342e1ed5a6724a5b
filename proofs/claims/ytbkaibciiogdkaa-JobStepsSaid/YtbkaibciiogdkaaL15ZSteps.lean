/-
  The law JobSteps holds, for every input: however a job is run, its moves are asked in order, one that tells an error again; how many were done, and what is left, is told. No conditions.
-/
import Derived.Test.YtbkaibciiogdkaaL15K
import Derived.Test.YtbkaibciiogdkaaL15FSteps
namespace Go.Proofs.Ytbkaibciiogdkaa.L1
open Go.Sx Go.Sx.M

set_option maxRecDepth 1000000 in
theorem jobSteps_holds : Rows.JobStepsSaid :=
  jobSteps_of fun A _ va B _ vb c hwf w ρ hp0 hp1 hp2 => by
    exact Exists.elim (jobSteps15_law A B c hwf) fun hs h => jobSteps_call (run_ok (l := st15Ls) st15Ls_ok mixed noNG) A va B vb c h w hp0 hp1 hp2

#print axioms jobSteps_holds
end Go.Proofs.Ytbkaibciiogdkaa.L1
