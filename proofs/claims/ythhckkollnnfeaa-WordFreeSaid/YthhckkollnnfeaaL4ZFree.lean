/-
  The law WordFree holds, for every input: a word with as many bits free as it says matches an address with any of these turned, and with none of the others. No conditions.
-/
import Derived.Test.YthhckkollnnfeaaL4H
import Derived.Test.YthhckkollnnfeaaL4FFree
namespace Go.Proofs.Ythhckkollnnfeaa.L1
open Go.Sx Go.Sx.M

theorem wordFree_holds : Rows.WordFreeSaid :=
  wordFree_of fun a0 a1 a2 a3 b c w => by
    obtain ⟨hs, h⟩ := free_law a0 a1 a2 a3 b c
    exact wordFree_call (run_ok (l := l4hCs) l4hCs_ok mixed noNG) a0 a1 a2 a3 b c h w

#print axioms wordFree_holds
end Go.Proofs.Ythhckkollnnfeaa.L1
