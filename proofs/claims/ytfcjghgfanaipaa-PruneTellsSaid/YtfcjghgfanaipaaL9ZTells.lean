/-
  The law PruneTells holds, for every input: what is kept tells every address what the table told it. No conditions.
-/
import Derived.Test.YtfcjghgfanaipaaL9b
import Derived.Test.YtfcjghgfanaipaaL9E
import Derived.Test.YtfcjghgfanaipaaL9FTells
namespace Go.Proofs.Ytfcjghgfanaipaa.L1
open Go.Sx Go.Sx.M

theorem pruneTells_holds : Rows.PruneTellsSaid :=
  pruneTells_of fun A hl va b0 b1 w ρ hp0 hp1 => by
    obtain ⟨hs, h⟩ := pruneTells9_law A b0 b1 hl
    exact pruneTells_call (run_ok (l := l9Cs) l9Cs_ok mixed noNG) A va b0 b1 h w hp0 hp1

#print axioms pruneTells_holds
end Go.Proofs.Ytfcjghgfanaipaa.L1
