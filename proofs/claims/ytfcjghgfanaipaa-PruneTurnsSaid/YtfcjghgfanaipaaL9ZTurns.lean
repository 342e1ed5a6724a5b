/-
  The law PruneTurns holds, for every input: a route that is kept turns what the nearest one above it says. No conditions.
-/
import Derived.Test.YtfcjghgfanaipaaL9b
import Derived.Test.YtfcjghgfanaipaaL9G
import Derived.Test.YtfcjghgfanaipaaL9FTurns
namespace Go.Proofs.Ytfcjghgfanaipaa.L1
open Go.Sx Go.Sx.M

theorem pruneTurns_holds : Rows.PruneTurnsSaid :=
  pruneTurns_of fun A hl va w ρ hp0 hp1 => by
    obtain ⟨hs, h⟩ := pruneTurns9_law A hl
    exact pruneTurns_call (run_ok (l := l9Cs) l9Cs_ok mixed noNG) A va h w hp0 hp1

#print axioms pruneTurns_holds
end Go.Proofs.Ytfcjghgfanaipaa.L1
