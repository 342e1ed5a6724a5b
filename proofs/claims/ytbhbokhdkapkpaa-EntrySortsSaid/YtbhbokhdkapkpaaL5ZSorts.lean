/-
  The law EntrySorts holds, for every input: what is sorted is the document's, and ordered; the row that was handed in is not changed. No conditions.
-/
import Derived.Test.YtbhbokhdkapkpaaL5Q
import Derived.Test.YtbhbokhdkapkpaaL5H
import Derived.Test.YtbhbokhdkapkpaaL5FSorts
namespace Go.Proofs.Ytbhbokhdkapkpaa.L1
open Go.Sx Go.Sx.M

theorem entrySorts_holds : Rows.EntrySortsSaid :=
  entrySorts_of fun A _ va w ρ hp0 hp1 => by
    obtain ⟨hs, h⟩ := sorts5_law A
    exact entrySorts_call (run_ok (l := l5gCs) l5gCs_ok mixed noNG) A va h w hp0 hp1

#print axioms entrySorts_holds
end Go.Proofs.Ytbhbokhdkapkpaa.L1
