/-
  The law WrittenAddr holds: the text of any address of a family is the document's, and read as it; of another one there is none. Conditions: the listed package-level variables hold what the program's text lays (tied).
-/
import Derived.Test.YtkdcajibehpeaaaDoorL3FAddr
import Derived.Test.YtkdcajibehpeaaaDoorL3I
namespace Go.Proofs.YtkdcajibehpeaaaDoor.L1
open Go.Sx Go.Sx.M Go.RowKit

theorem writtenAddr_holds : Rows.WrittenAddrCardSaid :=
  writtenAddr_card fun a b0 b1 w hG => by
    obtain ⟨C, hC, h⟩ := wa_any
    obtain ⟨hs, h⟩ := h a b0 b1
    exact writtenAddr_call hC a b0 b1 h w hG

end Go.Proofs.YtkdcajibehpeaaaDoor.L1
