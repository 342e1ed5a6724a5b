/-
  The law WrittenApart holds: two addresses, or prefixes, of a family are written alike just if they are the same. Conditions: the listed package-level variables hold what the program's text lays (tied).
-/
import Derived.Test.YtkdcajibehpeaaaDoorL3FApart
import Derived.Test.YtkdcajibehpeaaaDoorL3N
namespace Go.Proofs.YtkdcajibehpeaaaDoor.L1
open Go.Sx Go.Sx.M Go.RowKit

theorem writtenApart_holds : Rows.WrittenApartCardSaid :=
  writtenApart_card fun a b0 b1 b2 c0 c1 c2 w hG => by
    obtain ⟨C, hC, _, h⟩ := only_any
    obtain ⟨hs, h⟩ := h a b0 b1 b2 c0 c1 c2
    exact writtenApart_call hC a b0 b1 b2 c0 c1 c2 h w hG

end Go.Proofs.YtkdcajibehpeaaaDoor.L1
