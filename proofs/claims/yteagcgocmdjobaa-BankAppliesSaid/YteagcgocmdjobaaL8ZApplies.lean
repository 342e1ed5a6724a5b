/-
  The law BankApplies holds, for every input: slots behind writes, what is valid, what is told, and how many are free, are the document's. No conditions.
-/
import Derived.Test.YteagcgocmdjobaaL8b
import Derived.Test.YteagcgocmdjobaaL8H
import Derived.Test.YteagcgocmdjobaaL8FApplies
namespace Go.Proofs.Yteagcgocmdjobaa.L1
open Go.Sx Go.Sx.M

theorem bankApplies_holds : Rows.BankAppliesSaid :=
  bankApplies_of fun A _ va B _ vb c0 c1 w ρ hp0 hp1 hp2 => by
    obtain ⟨hs, h⟩ := bankApplies8_law A B c0 c1
    exact bankApplies_call (run_ok (l := l8Cs) l8Cs_ok mixed noNG) A va B vb c0 c1 h w hp0 hp1 hp2

#print axioms bankApplies_holds
end Go.Proofs.Yteagcgocmdjobaa.L1
