/-
  The law JobOf holds, for every input: a bank's moves are its writes, in order. No conditions.
-/
import Derived.Test.YtbkaibciiogdkaaL15C
import Derived.Test.YtbkaibciiogdkaaL15FOf
namespace Go.Proofs.Ytbkaibciiogdkaa.L1
open Go.Sx Go.Sx.M

set_option maxRecDepth 1000000 in
theorem jobOf_holds : Rows.JobOfSaid :=
  jobOf_of fun a B _ vb w ρ hp0 hp1 => by
    exact Exists.elim (jobOf15_law a B) fun hs h => jobOf_call (run_ok (l := jo15Cs) jo15Cs_ok mixed noNG) a B vb h w hp0 hp1

#print axioms jobOf_holds
end Go.Proofs.Ytbkaibciiogdkaa.L1
