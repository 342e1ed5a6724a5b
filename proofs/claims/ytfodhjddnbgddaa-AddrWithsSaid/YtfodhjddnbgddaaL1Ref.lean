/-
  Layer 1: contracts of the document's own functions.
-/
import Derived.Test.YtfodhjddnbgddaaL1Base
import Derived.Test.YtfodhjddnbgddaaSxM
import Derived.Test.YtfodhjddnbgddaaM01
namespace Go.Proofs.Ytfodhjddnbgddaa.L1
open Go.Sx Go.Sx.M

/-- Bits: the 128 bits of an address, from the left. -/
def bitsOf (a b : BitVec 64) : List AV := (List.range 128).map fun k => .bool (bitAt a b k)

/-- 'st': may the row's places be written out. -/
def bitsF (st : Bool) : List Arg → (Res → Prop) → Prop
  | [.v (.agg [.w64 a, .w64 b])], R => R (.row 4 1 (bitsOf a b) st)
  | _, _ => False

theorem bits_run (a b : BitVec 64) (st : Bool) : run [] Try.prog 21 [.agg [.w64 a, .w64 b]] [] [.loop 3, .loop 65, .loop 65] (yields (.row 4 1 (bitsOf a b) st)) =
    (128 = (bitsOf a b).length ∧ some (Blk.mk true 4 1 true ((List.range 128).map fun k => .bool (bitDiv a b k))) = some (Blk.mk true 4 1 true (bitsOf a b))) := by
  kernel_rfl

theorem bits_ok (st : Bool) : SpecOK Try.prog 21 (genSpec (bitsF st)) := by
  refine genSpec_ok none_ok fun l R hF => ?_
  unfold bitsF at hF
  split at hF
  · rename_i a b
    refine ⟨_, hF, trivial, [.loop 3, .loop 65, .loop 65], ?_⟩
    show run [] Try.prog _ [.agg [.w64 a, .w64 b]] [] [.loop 3, .loop 65, .loop 65] _
    rw [bits_run]
    refine ⟨by simp [bitsOf], ?_⟩
    congr 2
    unfold bitsOf
    apply List.map_congr_left
    intro k hk
    rw [bitDiv_eq (by simpa using hk)]
  · exact hF.elim

end Go.Proofs.Ytfodhjddnbgddaa.L1
