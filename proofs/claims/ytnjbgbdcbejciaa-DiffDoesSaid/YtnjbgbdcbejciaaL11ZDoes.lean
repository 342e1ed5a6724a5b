/-
  The law DiffDoes holds, for every input: a row behind a step is the document's. No conditions.
-/
import Derived.Test.YtnjbgbdcbejciaaL11b
import Derived.Test.YtnjbgbdcbejciaaL11E
import Derived.Test.YtnjbgbdcbejciaaL11FDoes
namespace Go.Proofs.Ytnjbgbdcbejciaa.L1
open Go.Sx Go.Sx.M

set_option maxRecDepth 1000000 in
theorem diffDoes_holds : Rows.DiffDoesSaid :=
  diffDoes_of fun A hl va b0 b1 b2 b3 b4 b5 b6 w ρ hp0 hp1 => by
    exact Exists.elim (diffDoes11_law A ⟨b0, ⟨b1, b2, b3, b4, b5, b6⟩⟩ hl) fun hs h => diffDoes_call (run_ok (l := l11Cs) l11Cs_ok mixed noNG) A va b0 b1 b2 b3 b4 b5 b6 h w hp0 hp1

#print axioms diffDoes_holds
end Go.Proofs.Ytnjbgbdcbejciaa.L1
