/-
  The law EntryRight holds, for every input: which entries may be, and which must stand above which, is the document's; a prefix's entry is its word, and its length. No conditions.
-/
import Derived.Test.YtbhbokhdkapkpaaL5R
import Derived.Test.YtbhbokhdkapkpaaL5FRight
namespace Go.Proofs.Ytbhbokhdkapkpaa.L1
open Go.Sx Go.Sx.M

theorem entryRight_holds : Rows.EntryRightSaid :=
  entryRight_of fun a0 a1 a2 a3 a4 a5 b0 b1 b2 b3 b4 b5 c0 c1 c2 d w => by
    obtain ⟨hs, h⟩ := right5_law ⟨a0, a1, a2, a3, a4, a5⟩ ⟨b0, b1, b2, b3, b4, b5⟩ c0 c1 c2 d
    exact entryRight_call (run_ok (l := right5Cs) right5Cs_ok mixed noNG) a0 a1 a2 a3 a4 a5 b0 b1 b2 b3 b4 b5 c0 c1 c2 d h w 

#print axioms entryRight_holds
end Go.Proofs.Ytbhbokhdkapkpaa.L1
