/-
  The law PruneLess holds, for every input: with one action for all, just the routes that no other covers are kept. No conditions.
-/
import Derived.Test.YtfcjghgfanaipaaL9b
import Derived.Test.YtfcjghgfanaipaaL9G
import Derived.Test.YtfcjghgfanaipaaL9FLess
namespace Go.Proofs.Ytfcjghgfanaipaa.L1
open Go.Sx Go.Sx.M

theorem pruneLess_holds : Rows.PruneLessSaid :=
  pruneLess_of fun A hl va b w ρ hp0 hp1 => by
    obtain ⟨hs, h⟩ := pruneLess9_law A b hl
    exact pruneLess_call (run_ok (l := l9Cs) l9Cs_ok mixed noNG) A va b h w hp0 hp1

#print axioms pruneLess_holds
end Go.Proofs.Ytfcjghgfanaipaa.L1
