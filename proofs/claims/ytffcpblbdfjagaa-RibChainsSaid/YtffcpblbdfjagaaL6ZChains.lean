/-
  The law RibChains holds, for every input: how many routes cover one another is the document's; with a route more it is as many, or one more. No conditions.
-/
import Derived.Test.YtffcpblbdfjagaaL6Q
import Derived.Test.YtffcpblbdfjagaaL6J
import Derived.Test.YtffcpblbdfjagaaL6FChains
namespace Go.Proofs.Ytffcpblbdfjagaa.L1
open Go.Sx Go.Sx.M

theorem ribChains_holds : Rows.RibChainsSaid :=
  ribChains_of fun A hl va b0 b1 b2 b3 w ρ hp0 hp1 => by
    obtain ⟨hs, h⟩ := chains6_law A b0 b1 b2 b3 hl
    exact ribChains_call (run_ok (l := l6Cs) l6Cs_ok mixed noNG) A va b0 b1 b2 b3 h w hp0 hp1

#print axioms ribChains_holds
end Go.Proofs.Ytffcpblbdfjagaa.L1
