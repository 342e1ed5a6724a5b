/-
  The law WordOf holds, for every input: the word of any prefix is right, and matches just what it does; it covers another one's just if the prefix does. No conditions.
-/
import Derived.Test.YthhckkollnnfeaaL4E
import Derived.Test.YthhckkollnnfeaaL4FOf
namespace Go.Proofs.Ythhckkollnnfeaa.L1
open Go.Sx Go.Sx.M

theorem wordOf_holds : Rows.WordOfSaid :=
  wordOf_of fun a0 a1 a2 b0 b1 b2 c0 c1 w => by
    obtain ⟨hs, h⟩ := of_law a0 a1 a2 b0 b1 b2 c0 c1
    exact wordOf_call (run_ok (l := l4Cs) l4Cs_ok mixed noNG) a0 a1 a2 b0 b1 b2 c0 c1 h w

#print axioms wordOf_holds
end Go.Proofs.Ythhckkollnnfeaa.L1
