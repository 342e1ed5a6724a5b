/-
  The law WordMatches holds, for every input: what any word matches, covers, and meets, is the document's. No conditions.
-/
import Derived.Test.YthhckkollnnfeaaL4C
import Derived.Test.YthhckkollnnfeaaL4FMatches
namespace Go.Proofs.Ythhckkollnnfeaa.L1
open Go.Sx Go.Sx.M

theorem wordMatches_holds : Rows.WordMatchesSaid :=
  wordMatches_of fun a0 a1 a2 a3 b0 b1 b2 b3 c0 c1 w => by
    obtain ⟨hs, h⟩ := matches_law a0 a1 a2 a3 b0 b1 b2 b3 c0 c1
    exact wordMatches_call (run_ok (l := l4Cs) l4Cs_ok mixed noNG) a0 a1 a2 a3 b0 b1 b2 b3 c0 c1 h w

#print axioms wordMatches_holds
end Go.Proofs.Ythhckkollnnfeaa.L1
