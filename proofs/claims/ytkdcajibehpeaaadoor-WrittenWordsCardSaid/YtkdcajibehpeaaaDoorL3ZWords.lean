/-
  The law WrittenWords holds: an address that is written has as many parts as its family, and a prefix a slash and its length behind. Conditions: the listed package-level variables hold what the program's text lays (tied).
-/
import Derived.Test.YtkdcajibehpeaaaDoorL3FWords
import Derived.Test.YtkdcajibehpeaaaDoorL3D
namespace Go.Proofs.YtkdcajibehpeaaaDoor.L1
open Go.Sx Go.Sx.M Go.RowKit

theorem writtenWords_holds : Rows.WrittenWordsCardSaid :=
  writtenWords_card fun a b0 b1 c w hG => by
    obtain ⟨C, hC, h⟩ := words_any
    obtain ⟨hs, h⟩ := h a b0 b1 c
    exact writtenWords_call hC a b0 b1 c h w hG

end Go.Proofs.YtkdcajibehpeaaaDoor.L1
