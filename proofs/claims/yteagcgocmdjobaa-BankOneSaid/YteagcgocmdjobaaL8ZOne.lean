/-
  The law BankOne holds, for every input: one write changes one slot. No conditions.
-/
import Derived.Test.YteagcgocmdjobaaL8b
import Derived.Test.YteagcgocmdjobaaL8I
import Derived.Test.YteagcgocmdjobaaL8FOne
namespace Go.Proofs.Yteagcgocmdjobaa.L1
open Go.Sx Go.Sx.M

theorem bankOne_holds : Rows.BankOneSaid :=
  bankOne_of fun A _ va b0 b1 b2 b3 b4 b5 b6 b7 c0 c1 w ρ hp0 hp1 => by
    obtain ⟨hs, h⟩ := bankOne8_law A ⟨b0, ⟨b1, ⟨b2, b3, b4, b5, b6, b7⟩⟩⟩ c0 c1
    exact bankOne_call (run_ok (l := l8Cs) l8Cs_ok mixed noNG) A va b0 b1 b2 b3 b4 b5 b6 b7 c0 c1 h w hp0 hp1

#print axioms bankOne_holds
end Go.Proofs.Yteagcgocmdjobaa.L1
