/-
  The law BankWrites holds, for every input: behind any writes a bank's slots, and how many were written, are the document's. No conditions.
-/
import Derived.Test.YteagcgocmdjobaaL8b
import Derived.Test.YteagcgocmdjobaaL8E
import Derived.Test.YteagcgocmdjobaaL8FWrites
namespace Go.Proofs.Yteagcgocmdjobaa.L1
open Go.Sx Go.Sx.M

theorem bankWrites_holds : Rows.BankWritesSaid :=
  bankWrites_of fun a B _ vb w ρ hp0 hp1 => by
    obtain ⟨hs, h⟩ := bankWrites8_law a B
    exact bankWrites_call (run_ok (l := l8Cs) l8Cs_ok mixed noNG) a B vb h w hp0 hp1

#print axioms bankWrites_holds
end Go.Proofs.Yteagcgocmdjobaa.L1
