/-
  The law BankOrdered holds, for every input: of slots whose entries are ordered, what is told is that of the best entry. No conditions.
-/
import Derived.Test.YteagcgocmdjobaaL8b
import Derived.Test.YteagcgocmdjobaaL8H
import Derived.Test.YteagcgocmdjobaaL8FOrdered
namespace Go.Proofs.Yteagcgocmdjobaa.L1
open Go.Sx Go.Sx.M

theorem bankOrdered_holds : Rows.BankOrderedSaid :=
  bankOrdered_of fun A _ va b0 b1 w ρ hp0 hp1 => by
    obtain ⟨hs, h⟩ := bankOrdered8_law A b0 b1
    exact bankOrdered_call (run_ok (l := l8Cs) l8Cs_ok mixed noNG) A va b0 b1 h w hp0 hp1

#print axioms bankOrdered_holds
end Go.Proofs.Yteagcgocmdjobaa.L1
