/-
  The law BankReplays holds, for every input: the writes of a bank, applied to empty slots, make its slots; applied twice they make the same. No conditions.
-/
import Derived.Test.YteagcgocmdjobaaL8b
import Derived.Test.YteagcgocmdjobaaL8G
import Derived.Test.YteagcgocmdjobaaL8FReplays
namespace Go.Proofs.Yteagcgocmdjobaa.L1
open Go.Sx Go.Sx.M

theorem bankReplays_holds : Rows.BankReplaysSaid :=
  bankReplays_of fun a B _ vb w ρ hp0 hp1 => by
    obtain ⟨hs, h⟩ := bankReplays8_law a B
    exact bankReplays_call (run_ok (l := l8Cs) l8Cs_ok mixed noNG) a B vb h w hp0 hp1

#print axioms bankReplays_holds
end Go.Proofs.Yteagcgocmdjobaa.L1
