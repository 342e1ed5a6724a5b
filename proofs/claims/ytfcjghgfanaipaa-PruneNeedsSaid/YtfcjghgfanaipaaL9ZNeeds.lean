/-
  The law PruneNeeds holds, for every input: each route that is kept is needed; keeping again keeps the same. No conditions.
-/
import Derived.Test.YtfcjghgfanaipaaL9b
import Derived.Test.YtfcjghgfanaipaaL9G
import Derived.Test.YtfcjghgfanaipaaL9FNeeds
namespace Go.Proofs.Ytfcjghgfanaipaa.L1
open Go.Sx Go.Sx.M

theorem pruneNeeds_holds : Rows.PruneNeedsSaid :=
  pruneNeeds_of fun A hl va w ρ hp0 hp1 => by
    obtain ⟨hs, h⟩ := pruneNeeds9_law A hl
    exact pruneNeeds_call (run_ok (l := l9Cs) l9Cs_ok mixed noNG) A va h w hp0 hp1

#print axioms pruneNeeds_holds
end Go.Proofs.Ytfcjghgfanaipaa.L1
