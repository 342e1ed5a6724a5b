/-
 Layer 14: all that the law of steps from one table to another asks for is as said.
-/
import Derived.Test.YtcabofadpheomaaGreatL14b
import Derived.Test.YtcabofadpheomaaGreatL14O
import Derived.Test.YtcabofadpheomaaGreatL11a
namespace Go.Proofs.YtcabofadpheomaaGreat.L1
open Go.Sx Go.Sx.M

theorem GD:∀e∈sM,eJ Tryz.prog e.1 e.2:=by
 intro e he
 simp only[sM,List.mem_cons,List.not_mem_nil,or_false] at he
 rcases he with rfl|rfl|rfl|rfl|rfl|rfl|rfl|rfl|rfl|rfl|rfl|rfl|rfl|rfl|rfl
 ·exact o3 l9
 ·exact qi
 ·exact ko
 ·exact m8
 ·exact qA mP
 ·exact rf
 ·exact wl
 ·exact wg
 ·exact oO
 ·exact we
 ·exact tL
 ·exact N5
 ·exact xH
 ·exact H8
 ·exact N9

end Go.Proofs.YtcabofadpheomaaGreat.L1
