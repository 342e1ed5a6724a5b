/-
  Layer 1: what all of its laws' proofs use.
-/
import Derived.Test.YtbbiehgdkfgngaaSxL
import Derived.Test.YtbbiehgdkfgngaaRows
namespace Go.Proofs.Ytbbiehgdkfgngaa.L1
open Go.Sx

theorem own : ownKnob Try.prog.godebug = none := by kernel_rfl
theorem laidOut : laidOutB Try.prog = true := by kernel_rfl
theorem noNG : Sx.noNG Try.prog = true := by kernel_rfl
theorem mixed : Try.prog.follows .mixedOrders = true := by kernel_rfl

theorem none_ok : COK Try.prog false (run [] Try.prog) := run_ok (by simp) mixed noNG

/-- What the document fixes of a mask holds. -/
theorem awake : SpecOK Try.prog 21 awakeSpec := by
  refine awake_ok (hs := List.replicate 20 (.br true)) none_ok ?_
  have e : run [] Try.prog 21 [] [] (List.replicate 20 (.br true)) (comesTo (.bool true)) = (true = true ∧ AV.bool true = AV.bool true) := by kernel_rfl
  rw [e]
  exact ⟨rfl, rfl⟩

end Go.Proofs.Ytbbiehgdkfgngaa.L1
