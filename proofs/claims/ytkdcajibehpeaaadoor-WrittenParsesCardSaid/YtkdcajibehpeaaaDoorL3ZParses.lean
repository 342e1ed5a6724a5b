/-
  The law WrittenParses holds: the address, and the prefix, of any text, or why it is none, are the document's. Conditions: the listed package-level variables hold what the program's text lays (tied).
-/
import Derived.Test.YtkdcajibehpeaaaDoorL3FParses
import Derived.Test.YtkdcajibehpeaaaDoorL3Y
namespace Go.Proofs.YtkdcajibehpeaaaDoor.L1
open Go.Sx Go.Sx.M Go.RowKit

theorem writtenParses_holds : Rows.WrittenParsesCardSaid :=
  writtenParses_card fun a b w hG => by
    obtain ⟨C, hC, h⟩ := wr_any
    obtain ⟨hs, h⟩ := h a b
    exact writtenParses_call hC a b h w hG

end Go.Proofs.YtkdcajibehpeaaaDoor.L1
