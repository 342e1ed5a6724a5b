/-
  The law EntryOrdered holds, for every input: whether a row is ordered is the document's; of an ordered one the first one that matches is the best one. No conditions.
-/
import Derived.Test.YtbhbokhdkapkpaaL5Q
import Derived.Test.YtbhbokhdkapkpaaL5E
import Derived.Test.YtbhbokhdkapkpaaL5FOrdered
namespace Go.Proofs.Ytbhbokhdkapkpaa.L1
open Go.Sx Go.Sx.M

theorem entryOrdered_holds : Rows.EntryOrderedSaid :=
  entryOrdered_of fun A _ va b0 b1 w ρ hp0 hp1 => by
    obtain ⟨hs, h⟩ := ordered5_law A b0 b1
    exact entryOrdered_call (run_ok (l := l5Cs) l5Cs_ok mixed noNG) A va b0 b1 h w hp0 hp1

#print axioms entryOrdered_holds
end Go.Proofs.Ytbhbokhdkapkpaa.L1
