/-
 Layer 14: all that the law of how few writes there are asks for is as said.
-/
import Derived.Test.YtcabofadpheomaaGreatL14b
import Derived.Test.YtcabofadpheomaaGreatL14c
import Derived.Test.YtcabofadpheomaaGreatL11a
import Derived.Test.YtcabofadpheomaaGreatL12L
import Derived.Test.YtcabofadpheomaaGreatL6b
namespace Go.Proofs.YtcabofadpheomaaGreat.L1
open Go.Sx Go.Sx.M

theorem GL:∀e∈sW,eJ Tryz.prog e.1 e.2:=by
 intro e he
 simp only[sW,List.mem_cons,List.not_mem_nil,or_false] at he
 rcases he with rfl|rfl|rfl|rfl|rfl|rfl|rfl|rfl|rfl|rfl|rfl|rfl|rfl|rfl
 ·exact o3 l9
 ·exact qi
 ·exact ko
 ·exact DM
 ·exact m8
 ·exact JC
 ·exact qA mP
 ·exact rf
 ·exact wl
 ·exact He
 ·exact Hg
 ·exact wk
 ·exact D8
 ·exact DV

end Go.Proofs.YtcabofadpheomaaGreat.L1
