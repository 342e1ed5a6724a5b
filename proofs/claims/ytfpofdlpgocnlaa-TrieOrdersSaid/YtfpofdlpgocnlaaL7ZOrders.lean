/-
  The law TrieOrders holds, for every input: in whatever order routes come, the trie holds the same. No conditions.
-/
import Derived.Test.YtfpofdlpgocnlaaL7d
import Derived.Test.YtfpofdlpgocnlaaL7J
import Derived.Test.YtfpofdlpgocnlaaL7FOrders
namespace Go.Proofs.Ytfpofdlpgocnlaa.L1
open Go.Sx Go.Sx.M

theorem trieOrders_holds : Rows.TrieOrdersSaid :=
  trieOrders_of fun a B _ vb c0 c1 w ρ hp0 hp1 => by
    obtain ⟨hs, h⟩ := orders7_law a B c0 c1
    exact trieOrders_call (run_ok (l := l7Cs) l7Cs_ok mixed noNG) a B vb c0 c1 h w hp0 hp1

#print axioms trieOrders_holds
end Go.Proofs.Ytfpofdlpgocnlaa.L1
