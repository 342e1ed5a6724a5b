/-
  The law WrittenPrefix holds: the text of any prefix that may be is the document's, and read as it; of another one there is none. Conditions: the listed package-level variables hold what the program's text lays (tied).
-/
import Derived.Test.YtkdcajibehpeaaaDoorL3FPrefix
import Derived.Test.YtkdcajibehpeaaaDoorL3I
namespace Go.Proofs.YtkdcajibehpeaaaDoor.L1
open Go.Sx Go.Sx.M Go.RowKit

theorem writtenPrefix_holds : Rows.WrittenPrefixCardSaid :=
  writtenPrefix_card fun a b0 b1 b2 w hG => by
    obtain ⟨C, hC, h⟩ := wp_any
    obtain ⟨hs, h⟩ := h a b0 b1 b2
    exact writtenPrefix_call hC a b0 b1 b2 h w hG

end Go.Proofs.YtkdcajibehpeaaaDoor.L1
