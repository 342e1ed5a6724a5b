/-
  The law WordSome holds, for every input: an address is told that a word matches; all of a few free bits are told by some number. No conditions.
-/
import Derived.Test.YthhckkollnnfeaaL4H
import Derived.Test.YthhckkollnnfeaaL4FSome
namespace Go.Proofs.Ythhckkollnnfeaa.L1
open Go.Sx Go.Sx.M

theorem wordSome_holds : Rows.WordSomeSaid :=
  wordSome_of fun a0 a1 a2 a3 b c0 c1 w => by
    obtain ⟨hs, h⟩ := some_law a0 a1 a2 a3 b c0 c1
    exact wordSome_call (run_ok (l := l4hCs) l4hCs_ok mixed noNG) a0 a1 a2 a3 b c0 c1 h w

#print axioms wordSome_holds
end Go.Proofs.Ythhckkollnnfeaa.L1
