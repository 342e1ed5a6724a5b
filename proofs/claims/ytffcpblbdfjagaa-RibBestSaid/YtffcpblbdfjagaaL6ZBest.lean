/-
  The law RibBest holds, for every input: with the best route no more, the one that covers it is the best. No conditions.
-/
import Derived.Test.YtffcpblbdfjagaaL6Q
import Derived.Test.YtffcpblbdfjagaaL6K
import Derived.Test.YtffcpblbdfjagaaL6FBest
namespace Go.Proofs.Ytffcpblbdfjagaa.L1
open Go.Sx Go.Sx.M

theorem ribBest_holds : Rows.RibBestSaid :=
  ribBest_of fun A hl va b0 b1 w ρ hp0 hp1 => by
    obtain ⟨hs, h⟩ := best6_law A b0 b1 hl
    exact ribBest_call (run_ok (l := l6Cs) l6Cs_ok mixed noNG) A va b0 b1 h w hp0 hp1

#print axioms ribBest_holds
end Go.Proofs.Ytffcpblbdfjagaa.L1
