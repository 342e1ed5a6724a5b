/-
  The law RibFinds holds, for every input: a prefix's route, and the best one for an address, are the document's. No conditions.
-/
import Derived.Test.YtffcpblbdfjagaaL6Q
import Derived.Test.YtffcpblbdfjagaaL6H
import Derived.Test.YtffcpblbdfjagaaL6FFinds
namespace Go.Proofs.Ytffcpblbdfjagaa.L1
open Go.Sx Go.Sx.M

theorem ribFinds_holds : Rows.RibFindsSaid :=
  ribFinds_of fun A hl va b0 b1 b2 c0 c1 w ρ hp0 hp1 => by
    obtain ⟨hs, h⟩ := finds6_law A b0 b1 b2 c0 c1 hl
    exact ribFinds_call (run_ok (l := l6Cs) l6Cs_ok mixed noNG) A va b0 b1 b2 c0 c1 h w hp0 hp1

#print axioms ribFinds_holds
end Go.Proofs.Ytffcpblbdfjagaa.L1
