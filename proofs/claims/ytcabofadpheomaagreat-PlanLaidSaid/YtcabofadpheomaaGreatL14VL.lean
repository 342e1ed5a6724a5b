/-
 Layer 14: all that the law of laid slots asks for is as said.
-/
import Derived.Test.YtcabofadpheomaaGreatL14b
import Derived.Test.YtcabofadpheomaaGreatL14M
namespace Go.Proofs.YtcabofadpheomaaGreat.L1
open Go.Sx Go.Sx.M

theorem GK:∀e∈sU,eJ Tryz.prog e.1 e.2:=by
 intro e he
 simp only[sU,List.mem_cons,List.not_mem_nil,or_false] at he
 rcases he with rfl|rfl|rfl|rfl|rfl|rfl
 ·exact o3 l9
 ·exact qi
 ·exact m8
 ·exact qA mP
 ·exact we
 ·exact wg

end Go.Proofs.YtcabofadpheomaaGreat.L1
