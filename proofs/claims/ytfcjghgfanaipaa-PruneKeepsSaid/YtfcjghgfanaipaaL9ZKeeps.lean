/-
  The law PruneKeeps holds, for every input: what is kept of a table, and whether a prefix is kept, are the document's. No conditions.
-/
import Derived.Test.YtfcjghgfanaipaaL9b
import Derived.Test.YtfcjghgfanaipaaL9E
import Derived.Test.YtfcjghgfanaipaaL9FKeeps
namespace Go.Proofs.Ytfcjghgfanaipaa.L1
open Go.Sx Go.Sx.M

theorem pruneKeeps_holds : Rows.PruneKeepsSaid :=
  pruneKeeps_of fun A hl va b0 b1 b2 w ρ hp0 hp1 => by
    obtain ⟨hs, h⟩ := pruneKeeps9_law A b0 b1 b2 hl
    exact pruneKeeps_call (run_ok (l := l9Cs) l9Cs_ok mixed noNG) A va b0 b1 b2 h w hp0 hp1

#print axioms pruneKeeps_holds
end Go.Proofs.Ytfcjghgfanaipaa.L1
