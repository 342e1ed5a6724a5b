/-
  The law WordMerges holds, for every input: two words of one mask that differ in one bit are merged as the document says. No conditions.
-/
import Derived.Test.YthhckkollnnfeaaL4J
import Derived.Test.YthhckkollnnfeaaL4FMerges
namespace Go.Proofs.Ythhckkollnnfeaa.L1
open Go.Sx Go.Sx.M

theorem wordMerges_holds : Rows.WordMergesSaid :=
  wordMerges_of fun a0 a1 a2 a3 b0 b1 b2 b3 c0 c1 w => by
    obtain ⟨hs, h⟩ := merges_law a0 a1 a2 a3 b0 b1 b2 b3 c0 c1
    exact wordMerges_call (run_ok (l := l4jCs) l4jCs_ok mixed noNG) a0 a1 a2 a3 b0 b1 b2 b3 c0 c1 h w

#print axioms wordMerges_holds
end Go.Proofs.Ythhckkollnnfeaa.L1
