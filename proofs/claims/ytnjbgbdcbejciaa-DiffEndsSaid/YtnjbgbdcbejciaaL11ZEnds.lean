/-
  The law DiffEnds holds, for every input: behind all steps there is the second row. No conditions.
-/
import Derived.Test.YtnjbgbdcbejciaaL11b
import Derived.Test.YtnjbgbdcbejciaaL11G
import Derived.Test.YtnjbgbdcbejciaaL11FEnds
namespace Go.Proofs.Ytnjbgbdcbejciaa.L1
open Go.Sx Go.Sx.M

set_option maxRecDepth 1000000 in
theorem diffEnds_holds : Rows.DiffEndsSaid :=
  diffEnds_of fun A hl va B hm vb w ρ hp0 hp1 hp2 => by
    exact Exists.elim (diffEnds11_law A B hl hm) fun hs h => diffEnds_call (run_ok (l := l11Cs) l11Cs_ok mixed noNG) A va B vb h w hp0 hp1 hp2

#print axioms diffEnds_holds
end Go.Proofs.Ytnjbgbdcbejciaa.L1
