/-
  Layer 1: what all of its laws' proofs use.
-/
import Derived.Test.YtkdcajibehpeaaaDoorSxL
import Derived.Test.YtkdcajibehpeaaaDoorRows
namespace Go.Proofs.YtkdcajibehpeaaaDoor.L1
open Go.Sx

theorem own : ownKnob Tryd.prog.godebug = none := by kernel_rfl
theorem laidOut : laidOutB Tryd.prog = true := by kernel_rfl
theorem noNG : Sx.noNG Tryd.prog = true := by kernel_rfl
theorem mixed : Tryd.prog.follows .mixedOrders = true := by kernel_rfl

theorem none_ok : COK Tryd.prog false (run [] Tryd.prog) := run_ok (by simp) mixed noNG

end Go.Proofs.YtkdcajibehpeaaaDoor.L1
