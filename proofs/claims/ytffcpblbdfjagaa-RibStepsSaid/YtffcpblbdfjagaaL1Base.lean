/-
  Layer 1: what all of its laws' proofs use.
-/
import Derived.Test.YtffcpblbdfjagaaSxL
import Derived.Test.YtffcpblbdfjagaaRows
namespace Go.Proofs.Ytffcpblbdfjagaa.L1
open Go.Sx

theorem own : ownKnob Try.prog.godebug = none := by kernel_rfl
theorem laidOut : laidOutB Try.prog = true := by kernel_rfl
theorem noNG : Sx.noNG Try.prog = true := by kernel_rfl
theorem mixed : Try.prog.follows .mixedOrders = true := by kernel_rfl

theorem none_ok : COK Try.prog false (run [] Try.prog) := run_ok (by simp) mixed noNG

end Go.Proofs.Ytffcpblbdfjagaa.L1
