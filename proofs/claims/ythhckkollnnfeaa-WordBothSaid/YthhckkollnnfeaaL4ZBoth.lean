/-
  The law WordBoth holds, for every input: what both match is just what the word that is told matches; there is none just if they do not meet. No conditions.
-/
import Derived.Test.YthhckkollnnfeaaL4C
import Derived.Test.YthhckkollnnfeaaL4FBoth
namespace Go.Proofs.Ythhckkollnnfeaa.L1
open Go.Sx Go.Sx.M

theorem wordBoth_holds : Rows.WordBothSaid :=
  wordBoth_of fun a0 a1 a2 a3 b0 b1 b2 b3 c0 c1 w => by
    obtain ⟨hs, h⟩ := both_law a0 a1 a2 a3 b0 b1 b2 b3 c0 c1
    exact wordBoth_call (run_ok (l := l4Cs) l4Cs_ok mixed noNG) a0 a1 a2 a3 b0 b1 b2 b3 c0 c1 h w

#print axioms wordBoth_holds
end Go.Proofs.Ythhckkollnnfeaa.L1
