/-
  The law RibCovers holds, for every input: the nearest route that covers a prefix, and all that it covers, are the document's. No conditions.
-/
import Derived.Test.YtffcpblbdfjagaaL6Q
import Derived.Test.YtffcpblbdfjagaaL6I
import Derived.Test.YtffcpblbdfjagaaL6FCovers
namespace Go.Proofs.Ytffcpblbdfjagaa.L1
open Go.Sx Go.Sx.M

theorem ribCovers_holds : Rows.RibCoversSaid :=
  ribCovers_of fun A hl va b0 b1 b2 w ρ hp0 hp1 => by
    obtain ⟨hs, h⟩ := covers6_law A b0 b1 b2 hl
    exact ribCovers_call (run_ok (l := l6Cs) l6Cs_ok mixed noNG) A va b0 b1 b2 h w hp0 hp1

#print axioms ribCovers_holds
end Go.Proofs.Ytffcpblbdfjagaa.L1
