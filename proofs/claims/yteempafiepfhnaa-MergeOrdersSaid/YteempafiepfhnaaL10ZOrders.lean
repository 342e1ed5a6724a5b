/-
  The law MergeOrders holds, for every input: in whatever order a row comes, it is merged to the same. No conditions.
-/
import Derived.Test.YteempafiepfhnaaL10c
import Derived.Test.YteempafiepfhnaaL10G
import Derived.Test.YteempafiepfhnaaL10FOrders
namespace Go.Proofs.Yteempafiepfhnaa.L1
open Go.Sx Go.Sx.M

set_option maxRecDepth 1000000 in
theorem mergeOrders_holds : Rows.MergeOrdersSaid :=
  mergeOrders_of fun A hl va w ρ hp0 hp1 => by
    exact Exists.elim (mergeOrders10_law A hl) fun hs h => mergeOrders_call (run_ok (l := l10Cs) l10Cs_ok mixed noNG) A va h w hp0 hp1

#print axioms mergeOrders_holds
end Go.Proofs.Yteempafiepfhnaa.L1
