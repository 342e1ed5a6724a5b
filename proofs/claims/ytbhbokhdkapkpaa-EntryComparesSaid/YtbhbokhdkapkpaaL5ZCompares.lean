/-
  The law EntryCompares holds, for every input: the order of two entries is the document's, turned the other way round; it is 0 just of the same. No conditions.
-/
import Derived.Test.YtbhbokhdkapkpaaL5Q
import Derived.Test.YtbhbokhdkapkpaaL5G
import Derived.Test.YtbhbokhdkapkpaaL5FCompares
namespace Go.Proofs.Ytbhbokhdkapkpaa.L1
open Go.Sx Go.Sx.M

theorem entryCompares_holds : Rows.EntryComparesSaid :=
  entryCompares_of fun a0 a1 a2 a3 a4 a5 b0 b1 b2 b3 b4 b5 c0 c1 c2 c3 c4 c5 w => by
    obtain ⟨hs, h⟩ := compares5_law ⟨a0, a1, a2, a3, a4, a5⟩ ⟨b0, b1, b2, b3, b4, b5⟩ ⟨c0, c1, c2, c3, c4, c5⟩
    exact entryCompares_call (run_ok (l := l5gCs) l5gCs_ok mixed noNG) a0 a1 a2 a3 a4 a5 b0 b1 b2 b3 b4 b5 c0 c1 c2 c3 c4 c5 h w 

#print axioms entryCompares_holds
end Go.Proofs.Ytbhbokhdkapkpaa.L1
