/-
  The law RibUnder holds, for every input: under the prefix of no bits are all others. No conditions.
-/
import Derived.Test.YtffcpblbdfjagaaL6Q
import Derived.Test.YtffcpblbdfjagaaL6P
import Derived.Test.YtffcpblbdfjagaaL6FUnder
namespace Go.Proofs.Ytffcpblbdfjagaa.L1
open Go.Sx Go.Sx.M

theorem ribUnder_holds : Rows.RibUnderSaid :=
  ribUnder_of fun A hl va w ρ hp0 hp1 => by
    obtain ⟨hs, h⟩ := under6_law A hl
    exact ribUnder_call (run_ok (l := l6Cs) l6Cs_ok mixed noNG) A va h w hp0 hp1

#print axioms ribUnder_holds
end Go.Proofs.Ytffcpblbdfjagaa.L1
