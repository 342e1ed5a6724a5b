/-
  The law EntryTells holds, for every input: what is to be done does not hang on the order of a row, if no two as long, with other actions, meet. No conditions.
-/
import Derived.Test.YtbhbokhdkapkpaaL5J
import Derived.Test.YtbhbokhdkapkpaaL5FTells
namespace Go.Proofs.Ytbhbokhdkapkpaa.L1
open Go.Sx Go.Sx.M

theorem entryTells_holds : Rows.EntryTellsSaid :=
  entryTells_of fun A _ va b0 b1 w ρ hp0 hp1 => by
    obtain ⟨hs, h⟩ := tells5_law A b0 b1
    exact entryTells_call (run_ok (l := tells5Cs) tells5Cs_ok mixed noNG) A va b0 b1 h w hp0 hp1

#print axioms entryTells_holds
end Go.Proofs.Ytbhbokhdkapkpaa.L1
