/-
  The law WrittenOnly holds: what is read as a prefix, or an address, written, is the text it was read from. Conditions: the listed package-level variables hold what the program's text lays (tied).
-/
import Derived.Test.YtkdcajibehpeaaaDoorL3FOnly
import Derived.Test.YtkdcajibehpeaaaDoorL3N
namespace Go.Proofs.YtkdcajibehpeaaaDoor.L1
open Go.Sx Go.Sx.M Go.RowKit

theorem writtenOnly_holds : Rows.WrittenOnlyCardSaid :=
  writtenOnly_card fun a b w hG => by
    obtain ⟨C, hC, h, _⟩ := only_any
    obtain ⟨hs, h⟩ := h a b
    exact writtenOnly_call hC a b h w hG

end Go.Proofs.YtkdcajibehpeaaaDoor.L1
