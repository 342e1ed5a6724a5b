/-
  The law DiffBack holds, for every input: there and back again: the first row. No conditions.
-/
import Derived.Test.YtnjbgbdcbejciaaL11b
import Derived.Test.YtnjbgbdcbejciaaL11G
import Derived.Test.YtnjbgbdcbejciaaL11FBack
namespace Go.Proofs.Ytnjbgbdcbejciaa.L1
open Go.Sx Go.Sx.M

set_option maxRecDepth 1000000 in
theorem diffBack_holds : Rows.DiffBackSaid :=
  diffBack_of fun A hl va B hm vb w ρ hp0 hp1 hp2 => by
    exact Exists.elim (diffBack11_law A B hl hm) fun hs h => diffBack_call (run_ok (l := l11Cs) l11Cs_ok mixed noNG) A va B vb h w hp0 hp1 hp2

#print axioms diffBack_holds
end Go.Proofs.Ytnjbgbdcbejciaa.L1
