/-
  The law EntryFinds holds, for every input: the first one that matches an address, and the best one, of any row, are the document's, and what is to be done. No conditions.
-/
import Derived.Test.YtbhbokhdkapkpaaL5Q
import Derived.Test.YtbhbokhdkapkpaaL5E
import Derived.Test.YtbhbokhdkapkpaaL5FFinds
namespace Go.Proofs.Ytbhbokhdkapkpaa.L1
open Go.Sx Go.Sx.M

theorem entryFinds_holds : Rows.EntryFindsSaid :=
  entryFinds_of fun A _ va b0 b1 w ρ hp0 hp1 => by
    obtain ⟨hs, h⟩ := finds5_law A b0 b1
    exact entryFinds_call (run_ok (l := l5Cs) l5Cs_ok mixed noNG) A va b0 b1 h w hp0 hp1

#print axioms entryFinds_holds
end Go.Proofs.Ytbhbokhdkapkpaa.L1
