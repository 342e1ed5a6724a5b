/-
  The law BankTells holds, for every input: what a bank's search finds is what its slots tell. No conditions.
-/
import Derived.Test.YteagcgocmdjobaaL8b
import Derived.Test.YteagcgocmdjobaaL8G
import Derived.Test.YteagcgocmdjobaaL8FTells
namespace Go.Proofs.Yteagcgocmdjobaa.L1
open Go.Sx Go.Sx.M

theorem bankTells_holds : Rows.BankTellsSaid :=
  bankTells_of fun a B _ vb c0 c1 w ρ hp0 hp1 => by
    obtain ⟨hs, h⟩ := bankTells8_law a B c0 c1
    exact bankTells_call (run_ok (l := l8Cs) l8Cs_ok mixed noNG) a B vb c0 c1 h w hp0 hp1

#print axioms bankTells_holds
end Go.Proofs.Yteagcgocmdjobaa.L1
