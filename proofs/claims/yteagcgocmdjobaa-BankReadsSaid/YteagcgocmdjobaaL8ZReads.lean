/-
  The law BankReads holds, for every input: any slot that there is is read as it was written, and the lowest one that matches an address is found. No conditions.
-/
import Derived.Test.YteagcgocmdjobaaL8b
import Derived.Test.YteagcgocmdjobaaL8G
import Derived.Test.YteagcgocmdjobaaL8FReads
namespace Go.Proofs.Yteagcgocmdjobaa.L1
open Go.Sx Go.Sx.M

theorem bankReads_holds : Rows.BankReadsSaid :=
  bankReads_of fun a B _ vb c d0 d1 w ρ hp0 hp1 => by
    obtain ⟨hs, h⟩ := bankReads8_law a B c d0 d1
    exact bankReads_call (run_ok (l := l8Cs) l8Cs_ok mixed noNG) a B vb c d0 d1 h w hp0 hp1

#print axioms bankReads_holds
end Go.Proofs.Yteagcgocmdjobaa.L1
