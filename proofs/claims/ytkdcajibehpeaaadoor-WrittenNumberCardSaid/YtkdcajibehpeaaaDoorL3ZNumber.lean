/-
  The law WrittenNumber holds: the number of any digits, or that they are none, is the document's. Conditions: the listed package-level variables hold what the program's text lays (tied).
-/
import Derived.Test.YtkdcajibehpeaaaDoorL3FNumber
import Derived.Test.YtkdcajibehpeaaaDoorL3U
namespace Go.Proofs.YtkdcajibehpeaaaDoor.L1
open Go.Sx Go.Sx.M Go.RowKit

theorem writtenNumber_holds : Rows.WrittenNumberCardSaid :=
  writtenNumber_card fun a b w hG => by
    obtain ⟨C, hC, h⟩ := nl_any
    obtain ⟨hs, h⟩ := h a b
    exact writtenNumber_call hC a b h w hG

end Go.Proofs.YtkdcajibehpeaaaDoor.L1
