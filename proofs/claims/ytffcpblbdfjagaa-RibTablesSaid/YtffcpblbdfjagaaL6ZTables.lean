/-
  The law RibTables holds, for every input: which routes may be, and which rows are tables, is the document's. No conditions.
-/
import Derived.Test.YtffcpblbdfjagaaL6Q
import Derived.Test.YtffcpblbdfjagaaL6E
import Derived.Test.YtffcpblbdfjagaaL6FTables
namespace Go.Proofs.Ytffcpblbdfjagaa.L1
open Go.Sx Go.Sx.M

theorem ribTables_holds : Rows.RibTablesSaid :=
  ribTables_of fun a B _ vb c0 c1 c2 c3 w ρ hp0 hp1 => by
    obtain ⟨hs, h⟩ := tables6_law a B c0 c1 c2 c3
    exact ribTables_call (run_ok (l := l6Cs) l6Cs_ok mixed noNG) a B vb c0 c1 c2 c3 h w hp0 hp1

#print axioms ribTables_holds
end Go.Proofs.Ytffcpblbdfjagaa.L1
