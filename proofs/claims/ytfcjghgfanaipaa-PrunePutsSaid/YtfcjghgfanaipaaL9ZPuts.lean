/-
  The law PrunePuts holds, for every input: a route put below one that is kept, with its action, is not kept. No conditions.
-/
import Derived.Test.YtfcjghgfanaipaaL9b
import Derived.Test.YtfcjghgfanaipaaL9I
import Derived.Test.YtfcjghgfanaipaaL9FPuts
namespace Go.Proofs.Ytfcjghgfanaipaa.L1
open Go.Sx Go.Sx.M

theorem prunePuts_holds : Rows.PrunePutsSaid :=
  prunePuts_of fun A hl va b0 b1 b2 w ρ hp0 hp1 => by
    obtain ⟨hs, h⟩ := prunePuts9_law A b0 b1 b2 hl
    exact prunePuts_call (run_ok (l := l9Cs) l9Cs_ok mixed noNG) A va b0 b1 b2 h w hp0 hp1

#print axioms prunePuts_holds
end Go.Proofs.Ytfcjghgfanaipaa.L1
