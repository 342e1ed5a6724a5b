/-
  The law TrieFinds holds, for every input: a prefix's route, the best one for an address, and the nearest that covers a prefix, are the document's. No conditions.
-/
import Derived.Test.YtfpofdlpgocnlaaL7d
import Derived.Test.YtfpofdlpgocnlaaL7I
import Derived.Test.YtfpofdlpgocnlaaL7FFinds
namespace Go.Proofs.Ytfpofdlpgocnlaa.L1
open Go.Sx Go.Sx.M

theorem trieFinds_holds : Rows.TrieFindsSaid :=
  trieFinds_of fun a B _ vb c0 c1 c2 d0 d1 w ρ hp0 hp1 => by
    obtain ⟨hs, h⟩ := finds7_law a B c0 c1 c2 d0 d1
    exact trieFinds_call (run_ok (l := l7Cs) l7Cs_ok mixed noNG) a B vb c0 c1 c2 d0 d1 h w hp0 hp1

#print axioms trieFinds_holds
end Go.Proofs.Ytfpofdlpgocnlaa.L1
