/-
  The law TrieEmpties holds, for every input: with all that was put dropped again there is one node, and no route. No conditions.
-/
import Derived.Test.YtfpofdlpgocnlaaL7d
import Derived.Test.YtfpofdlpgocnlaaL7K
import Derived.Test.YtfpofdlpgocnlaaL7FEmpties
namespace Go.Proofs.Ytfpofdlpgocnlaa.L1
open Go.Sx Go.Sx.M

theorem trieEmpties_holds : Rows.TrieEmptiesSaid :=
  trieEmpties_of fun a B _ vb c w ρ hp0 hp1 => by
    obtain ⟨hs, h⟩ := empties7_law a B c
    exact trieEmpties_call (run_ok (l := l7Cs) l7Cs_ok mixed noNG) a B vb c h w hp0 hp1

#print axioms trieEmpties_holds
end Go.Proofs.Ytfpofdlpgocnlaa.L1
