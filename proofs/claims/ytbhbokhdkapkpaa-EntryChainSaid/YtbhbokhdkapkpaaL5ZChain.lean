/-
  The law EntryChain holds, for every input: one that must stand above another one does not the other way round; sorting what is sorted changes nothing. No conditions.
-/
import Derived.Test.YtbhbokhdkapkpaaL5Q
import Derived.Test.YtbhbokhdkapkpaaL5I
import Derived.Test.YtbhbokhdkapkpaaL5FChain
namespace Go.Proofs.Ytbhbokhdkapkpaa.L1
open Go.Sx Go.Sx.M

theorem entryChain_holds : Rows.EntryChainSaid :=
  entryChain_of fun A _ va b0 b1 b2 b3 b4 b5 c0 c1 c2 c3 c4 c5 w ρ hp0 hp1 => by
    obtain ⟨hs, h⟩ := chain5_law A ⟨b0, b1, b2, b3, b4, b5⟩ ⟨c0, c1, c2, c3, c4, c5⟩
    exact entryChain_call (run_ok (l := l5gCs) l5gCs_ok mixed noNG) A va b0 b1 b2 b3 b4 b5 c0 c1 c2 c3 c4 c5 h w hp0 hp1

#print axioms entryChain_holds
end Go.Proofs.Ytbhbokhdkapkpaa.L1
