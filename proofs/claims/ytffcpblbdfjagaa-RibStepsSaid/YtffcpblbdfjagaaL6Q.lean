/-
  Layer 6: what the document fixes of three routes holds (awake); the laws' calls.
-/
import Derived.Test.YtffcpblbdfjagaaL6L
import Derived.Test.YtffcpblbdfjagaaL6W
namespace Go.Proofs.Ytffcpblbdfjagaa.L1
open Go.Sx Go.Sx.M

theorem awake6Cs_ok : ∀ e ∈ awake6Cs, SpecOK Try.prog e.1 e.2 := by
  intro e he
  simp only [awake6Cs, List.mem_cons, List.not_mem_nil, or_false] at he
  rcases he with rfl | rfl | rfl | rfl | rfl | rfl
  · exact pmake_ok
  · exact gput6_ok
  · exact gcover6_ok
  · exact gchain6_ok
  · exact gtable6_ok
  · exact gtell6_ok

theorem awake6_ok : SpecOK Try.prog 11 awakeSpec := by
  obtain ⟨hs, h⟩ := awake6_law
  exact awake_ok (run_ok (l := awake6Cs) awake6Cs_ok mixed noNG) h

theorem l6Cs_ok : ∀ e ∈ l6Cs, SpecOK Try.prog e.1 e.2 := by
  intro e he
  simp only [l6Cs, List.mem_cons, List.not_mem_nil, or_false] at he
  rcases he with rfl | rfl | rfl | rfl | rfl | rfl | rfl | rfl | rfl | rfl | rfl | rfl | rfl | rfl | rfl | rfl | rfl | rfl | rfl | rfl | rfl | rfl | rfl | rfl | rfl | rfl | rfl
  · exact awake6_ok
  · exact of6_ok
  · exact one6_ok
  · exact same6_ok
  · exact table6_ok
  · exact gright6_ok
  · exact gtable6_ok
  · exact gfind6_ok
  · exact gbest6_ok
  · exact gtell6_ok
  · exact gcover6_ok
  · exact gunder6_ok
  · exact gdrop6_ok
  · exact gput6_ok
  · exact gchain6_ok
  · exact pright_ok
  · exact pmatch_ok
  · exact rrr_ok
  · exact rrtable_ok
  · exact rrfind_ok
  · exact rrbest_ok
  · exact rrtell_ok
  · exact rrcover_ok
  · exact rrunder_ok
  · exact rrdrop_ok
  · exact rrput_ok
  · exact rrchain_ok

end Go.Proofs.Ytffcpblbdfjagaa.L1
