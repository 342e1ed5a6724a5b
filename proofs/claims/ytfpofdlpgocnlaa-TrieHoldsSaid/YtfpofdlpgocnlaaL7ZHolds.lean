/-
  The law TrieHolds holds, for every input: behind any calls a trie holds just the document's routes, in order, with its nodes. No conditions.
-/
import Derived.Test.YtfpofdlpgocnlaaL7d
import Derived.Test.YtfpofdlpgocnlaaL7H
import Derived.Test.YtfpofdlpgocnlaaL7FHolds
namespace Go.Proofs.Ytfpofdlpgocnlaa.L1
open Go.Sx Go.Sx.M

theorem trieHolds_holds : Rows.TrieHoldsSaid :=
  trieHolds_of fun a B _ vb w ρ hp0 hp1 => by
    obtain ⟨hs, h⟩ := holds7_law a B
    exact trieHolds_call (run_ok (l := l7Cs) l7Cs_ok mixed noNG) a B vb h w hp0 hp1

#print axioms trieHolds_holds
end Go.Proofs.Ytfpofdlpgocnlaa.L1
