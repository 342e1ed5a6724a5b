/-
  The law TrieFull holds, for every input: the 257th prefix is one too many; a route of one that is there is put still. No conditions.
-/
import Derived.Test.YtfpofdlpgocnlaaL7d
import Derived.Test.YtfpofdlpgocnlaaL7L
import Derived.Test.YtfpofdlpgocnlaaL7FFull
namespace Go.Proofs.Ytfpofdlpgocnlaa.L1
open Go.Sx Go.Sx.M

theorem trieFull_holds : Rows.TrieFullSaid :=
  trieFull_of fun a hwf b w => by
    obtain ⟨hs, h⟩ := full7_law a b (u8_wf hwf).1 (u8_wf hwf).2
    exact trieFull_call (run_ok (l := l7Cs) l7Cs_ok mixed noNG) a b h w 

#print axioms trieFull_holds
end Go.Proofs.Ytfpofdlpgocnlaa.L1
