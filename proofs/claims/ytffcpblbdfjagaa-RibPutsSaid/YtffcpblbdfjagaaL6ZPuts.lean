/-
  The law RibPuts holds, for every input: a table with a route more, or less, is the document's, and a table. No conditions.
-/
import Derived.Test.YtffcpblbdfjagaaL6Q
import Derived.Test.YtffcpblbdfjagaaL6G
import Derived.Test.YtffcpblbdfjagaaL6FPuts
namespace Go.Proofs.Ytffcpblbdfjagaa.L1
open Go.Sx Go.Sx.M

theorem ribPuts_holds : Rows.RibPutsSaid :=
  ribPuts_of fun A hl va b0 b1 b2 b3 c0 c1 c2 w ρ hp0 hp1 => by
    obtain ⟨hs, h⟩ := puts6_law A b0 b1 b2 b3 c0 c1 c2 hl
    exact ribPuts_call (run_ok (l := l6Cs) l6Cs_ok mixed noNG) A va b0 b1 b2 b3 c0 c1 c2 h w hp0 hp1

#print axioms ribPuts_holds
end Go.Proofs.Ytffcpblbdfjagaa.L1
