/-
  Texts in one: L1Base.
-/
import Derived.Test.YtbkaibciiogdkaaSxL
import Derived.Test.YtbkaibciiogdkaaMo
import Derived.Test.YtbkaibciiogdkaaRows

section
/-
  Layer 1: what all of its laws' proofs use.
-/
namespace Go.Proofs.Ytbkaibciiogdkaa.L1
open Go.Sx

theorem own : ownKnob Try.prog.godebug = none := by kernel_rfl
theorem laidOut : laidOutB Try.prog = true := by kernel_rfl
theorem noNG : Sx.noNG Try.prog = true := by kernel_rfl
theorem mixed : Fol Try.prog := ⟨by kernel_rfl, maps_ok⟩

theorem none_ok : COK Try.prog false (run [] Try.prog) := run_ok (by simp) mixed noNG

end Go.Proofs.Ytbkaibciiogdkaa.L1
end

