/-
  The law EntryAppends holds, for every input: of a row and one more that matches an address and is longer than all, that one is told. No conditions.
-/
import Derived.Test.YtbhbokhdkapkpaaL5K
import Derived.Test.YtbhbokhdkapkpaaL5FAppends
namespace Go.Proofs.Ytbhbokhdkapkpaa.L1
open Go.Sx Go.Sx.M

theorem entryAppends_holds : Rows.EntryAppendsSaid :=
  entryAppends_of fun A _ va b0 b1 b2 b3 b4 b5 c0 c1 w ρ hp0 hp1 => by
    obtain ⟨hs, h⟩ := appends5_law A ⟨b0, b1, b2, b3, b4, b5⟩ c0 c1
    exact entryAppends_call (run_ok (l := appends5Cs) appends5Cs_ok mixed noNG) A va b0 b1 b2 b3 b4 b5 c0 c1 h w hp0 hp1

#print axioms entryAppends_holds
end Go.Proofs.Ytbhbokhdkapkpaa.L1
