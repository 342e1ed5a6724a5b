/-
  The law TrieWalks holds, for every input: the routes that any prefix covers, its own, too, are gone through in order, as far as it is asked. No conditions.
-/
import Derived.Test.YtfpofdlpgocnlaaL7WK
import Derived.Test.YtfpofdlpgocnlaaL7FWalks
namespace Go.Proofs.Ytfpofdlpgocnlaa.L1
open Go.Sx Go.Sx.M

theorem l7wCs_ok (w : Int) (l : List OpR) (a b : BitVec 64) (k s : Int) (T : List Ro) : ∀ e ∈ l7wCs w l a b k s T, SpecOK Try.prog e.1 e.2 := by
  intro e he
  rcases List.mem_cons.1 he with rfl | he
  · exact openSpec_ok (run_ok (l := tableCs) tableCs_ok mixed noNG) trOpens (fun es b m h => by
      obtain ⟨w, len, nds, t, hV, rfl⟩ := h
      exact hV.raw) _ _
  · exact l7Cs_ok e he

theorem trieWalks_holds : Rows.TrieWalksSaid :=
  trieWalks_of fun a B _ vb c0 c1 c2 d hwf w ρ hp0 hp1 => by
    obtain ⟨hs, h⟩ := walks7_law a B c0 c1 c2 d (u8_wf hwf).1 (u8_wf hwf).2
    exact trieWalks_call (run_ok (l := l7wCs a B c0 c1 c2 d (tblT a B)) (l7wCs_ok a B c0 c1 c2 d _) mixed noNG) a B vb c0 c1 c2 d h w hp0 hp1

#print axioms trieWalks_holds
end Go.Proofs.Ytfpofdlpgocnlaa.L1
