/-
  The law WordOrder holds, for every input: what covers what covers another word covers that; words that cover one another match the same. No conditions.
-/
import Derived.Test.YthhckkollnnfeaaL4D
import Derived.Test.YthhckkollnnfeaaL4FOrder
namespace Go.Proofs.Ythhckkollnnfeaa.L1
open Go.Sx Go.Sx.M

theorem wordOrder_holds : Rows.WordOrderSaid :=
  wordOrder_of fun a0 a1 a2 a3 b0 b1 b2 b3 c0 c1 c2 c3 d0 d1 w => by
    obtain ⟨hs, h⟩ := order_law4 a0 a1 a2 a3 b0 b1 b2 b3 c0 c1 c2 c3 d0 d1
    exact wordOrder_call (run_ok (l := l4Cs) l4Cs_ok mixed noNG) a0 a1 a2 a3 b0 b1 b2 b3 c0 c1 c2 c3 d0 d1 h w

#print axioms wordOrder_holds
end Go.Proofs.Ythhckkollnnfeaa.L1
