/-
  No cell of these rows narrows 'for every input' (looked for: loops, veiled, ifaces, maps, wideKeys, modest, calm, conditions, laid).
  DERIVED. THE GIVEN ROWS OF THIS SEAT. 5 by the template 'for every input the law returns true; each argument reads behind the call as it read before'; 0 by the template 'total and deterministic' (their statements: YtcabofadpheomaaTotals.lean).
  GIVEN WITH THE SEED: the statements are not yours to turn. If you find one false, say at which input.
  Laid BY PROGRAM, IN A SANDBOX (cutbox-rows.mjs): the forced cells as the released guide's own fill.sh prints them over the translation 626ee55d0c587c62… (all of the seat's roots in one cut). By AI agents, Wed Nov 11 2026. No macro, syntax, notation, axiom, sorry.
-/
import Derived.Test.YtcabofadpheomaaChecked
import GoSem.Claim
import GoSem.ClaimJoined
import GoSem.ClaimMapViews
import Derived.JoinedTies
import Derived.KernelRfl
namespace Go.Proofs.Ytcabofadpheomaa
/- THE CELL 'sum', in the pinned program and in every row, IS THE sha256 OF THE DUMP (.gsa) THAT YtcabofadpheomaaProg.lean LOADS. Nothing in Lean hashes anything: it is a label: what it is worth is what the hold of that sum in a sandbox is worth. -/
noncomputable def Try.pinned : Pinned := { name := "ytcabofadpheomaa", sum := "626ee55d0c587c624d68b31d2c248e96e61283f36815983dfd7d4364227eb25f", checked := Try.checked }
namespace Rows
def none {H : Type} : Left H := { results := [], args := [] }

/-- 'pigeonholelaw14.PlanOne': WHATEVER THE INPUT: true; the input reads as it did. -/
def planOneSpec : ChangeSpec := { name := "planOne", fn := fun _ => fun
  | [d1, d2, d3] => { results := [.lit (.bool true)], args := [d1, d2, d3] }
  | _ => none }
def planOneRow : OpenClaim := { program := "ytcabofadpheomaa", sum := "626ee55d0c587c624d68b31d2c248e96e61283f36815983dfd7d4364227eb25f", func := "pigeonhole/pigeonholelaw14.PlanOne", spec := "planOne", unfollowed := true, recurses := true, apart := false }
def PlanOneSaid : Prop := planOneRow.holds Try.pinned (OpenSpec.ofChange planOneSpec)

/-- ITS FALSE NEIGHBOUR: 'it returns false'. Refute it at one input. -/
def planOneWrong : ChangeSpec := { name := "planOne", fn := fun _ => fun
  | [d1, d2, d3] => { results := [.lit (.bool false)], args := [d1, d2, d3] }
  | _ => none }
def PlanOneWrongFalsely : Prop := planOneRow.holds Try.pinned (OpenSpec.ofChange planOneWrong)

/-- 'pigeonholelaw14.PlanAll': WHATEVER THE INPUT: true; the input reads as it did. -/
def planAllSpec : ChangeSpec := { name := "planAll", fn := fun _ => fun
  | [d1, d2, d3] => { results := [.lit (.bool true)], args := [d1, d2, d3] }
  | _ => none }
def planAllRow : OpenClaim := { program := "ytcabofadpheomaa", sum := "626ee55d0c587c624d68b31d2c248e96e61283f36815983dfd7d4364227eb25f", func := "pigeonhole/pigeonholelaw14.PlanAll", spec := "planAll", unfollowed := true, recurses := true, apart := false }
def PlanAllSaid : Prop := planAllRow.holds Try.pinned (OpenSpec.ofChange planAllSpec)

/-- ITS FALSE NEIGHBOUR: 'it returns false'. Refute it at one input. -/
def planAllWrong : ChangeSpec := { name := "planAll", fn := fun _ => fun
  | [d1, d2, d3] => { results := [.lit (.bool false)], args := [d1, d2, d3] }
  | _ => none }
def PlanAllWrongFalsely : Prop := planAllRow.holds Try.pinned (OpenSpec.ofChange planAllWrong)

/-- 'pigeonholelaw14.PlanInserts': WHATEVER THE INPUT: true; the input reads as it did. -/
def planInsertsSpec : ChangeSpec := { name := "planInserts", fn := fun _ => fun
  | [d1, d2, d3] => { results := [.lit (.bool true)], args := [d1, d2, d3] }
  | _ => none }
def planInsertsRow : OpenClaim := { program := "ytcabofadpheomaa", sum := "626ee55d0c587c624d68b31d2c248e96e61283f36815983dfd7d4364227eb25f", func := "pigeonhole/pigeonholelaw14.PlanInserts", spec := "planInserts", unfollowed := true, recurses := true, apart := false }
def PlanInsertsSaid : Prop := planInsertsRow.holds Try.pinned (OpenSpec.ofChange planInsertsSpec)

/-- ITS FALSE NEIGHBOUR: 'it returns false'. Refute it at one input. -/
def planInsertsWrong : ChangeSpec := { name := "planInserts", fn := fun _ => fun
  | [d1, d2, d3] => { results := [.lit (.bool false)], args := [d1, d2, d3] }
  | _ => none }
def PlanInsertsWrongFalsely : Prop := planInsertsRow.holds Try.pinned (OpenSpec.ofChange planInsertsWrong)

/-- 'pigeonholelaw14.PlanTwins': WHATEVER THE INPUT: true; the input reads as it did. -/
def planTwinsSpec : ChangeSpec := { name := "planTwins", fn := fun _ => fun
  | [d1, d2] => { results := [.lit (.bool true)], args := [d1, d2] }
  | _ => none }
def planTwinsRow : OpenClaim := { program := "ytcabofadpheomaa", sum := "626ee55d0c587c624d68b31d2c248e96e61283f36815983dfd7d4364227eb25f", func := "pigeonhole/pigeonholelaw14.PlanTwins", spec := "planTwins", unfollowed := true, recurses := true, apart := false }
def PlanTwinsSaid : Prop := planTwinsRow.holds Try.pinned (OpenSpec.ofChange planTwinsSpec)

/-- ITS FALSE NEIGHBOUR: 'it returns false'. Refute it at one input. -/
def planTwinsWrong : ChangeSpec := { name := "planTwins", fn := fun _ => fun
  | [d1, d2] => { results := [.lit (.bool false)], args := [d1, d2] }
  | _ => none }
def PlanTwinsWrongFalsely : Prop := planTwinsRow.holds Try.pinned (OpenSpec.ofChange planTwinsWrong)

/-- 'pigeonholelaw14.PlanSets': WHATEVER THE INPUT: true; the input reads as it did. -/
def planSetsSpec : ChangeSpec := { name := "planSets", fn := fun _ => fun
  | [d1, d2, d3] => { results := [.lit (.bool true)], args := [d1, d2, d3] }
  | _ => none }
def planSetsRow : OpenClaim := { program := "ytcabofadpheomaa", sum := "626ee55d0c587c624d68b31d2c248e96e61283f36815983dfd7d4364227eb25f", func := "pigeonhole/pigeonholelaw14.PlanSets", spec := "planSets", unfollowed := true, recurses := true, apart := false }
def PlanSetsSaid : Prop := planSetsRow.holds Try.pinned (OpenSpec.ofChange planSetsSpec)

/-- ITS FALSE NEIGHBOUR: 'it returns false'. Refute it at one input. -/
def planSetsWrong : ChangeSpec := { name := "planSets", fn := fun _ => fun
  | [d1, d2, d3] => { results := [.lit (.bool false)], args := [d1, d2, d3] }
  | _ => none }
def PlanSetsWrongFalsely : Prop := planSetsRow.holds Try.pinned (OpenSpec.ofChange planSetsWrong)

/- THE SECOND FORM. 'bulk': how many values and letters a reading holds, each counted each time it is reached (what is shared counts as often as it is met; a slice's spare places count too). A statement '..UptoSaid' is the law's where the arguments, and the package variables that the reading takes, are together of bulk at most 1048576: NARROWER than '..Said'. Prove '..Said' where nothing that the law and all that it calls make is longer than what came in: it says more and counts as full. Else prove '..UptoSaid'. A law counts once. -/
mutual
def uptoBulk {H : Type} : DataW H → Nat
  | .lit (.string bytes) => bytes.length + 1
  | .lit _ => 1
  | .nil => 1
  | .ptr d => uptoBulk d + 1
  | .slice elems spare => uptoBulkAll elems + uptoBulkAll spare + 1
  | .agg parts => uptoBulkAll parts + 1
  | .iface _ d => uptoBulk d + 1
  | .map entries => uptoBulkEntries entries + 1
  | .held _ => 1
def uptoBulkAll {H : Type} : List (DataW H) → Nat
  | [] => 0
  | d :: r => uptoBulk d + uptoBulkAll r
def uptoBulkEntries {H : Type} : List (Lit × DataW H) → Nat
  | [] => 0
  | x :: r => uptoBulkEntry x + uptoBulkEntries r
def uptoBulkEntry {H : Type} : Lit × DataW H → Nat
  | (.string bytes, d) => bytes.length + uptoBulk d + 1
  | (_, d) => uptoBulk d + 1
 end
def uptoSmall : (H : Type) → List (DataW H) → Bool := fun _ ds => decide (uptoBulkAll ds ≤ 1048576)
def OpenSpec.upto (s : _root_.Go.ChangeSpec) : _root_.Go.OpenSpec := { _root_.Go.OpenSpec.ofChange s with cond := some uptoSmall }

/-- 'pigeonholelaw14.PlanOne', WHERE WHAT IT READS IS OF BULK AT MOST 1048576: true; the input reads as it did. -/
def planOneUptoRow : OpenClaim := { program := "ytcabofadpheomaa", sum := "626ee55d0c587c624d68b31d2c248e96e61283f36815983dfd7d4364227eb25f", func := "pigeonhole/pigeonholelaw14.PlanOne", spec := "planOne", unfollowed := true, recurses := true, apart := false, narrowed := true }
def PlanOneUptoSaid : Prop := planOneUptoRow.holds Try.pinned (OpenSpec.upto planOneSpec)

/-- 'pigeonholelaw14.PlanAll', WHERE WHAT IT READS IS OF BULK AT MOST 1048576: true; the input reads as it did. -/
def planAllUptoRow : OpenClaim := { program := "ytcabofadpheomaa", sum := "626ee55d0c587c624d68b31d2c248e96e61283f36815983dfd7d4364227eb25f", func := "pigeonhole/pigeonholelaw14.PlanAll", spec := "planAll", unfollowed := true, recurses := true, apart := false, narrowed := true }
def PlanAllUptoSaid : Prop := planAllUptoRow.holds Try.pinned (OpenSpec.upto planAllSpec)

/-- 'pigeonholelaw14.PlanInserts', WHERE WHAT IT READS IS OF BULK AT MOST 1048576: true; the input reads as it did. -/
def planInsertsUptoRow : OpenClaim := { program := "ytcabofadpheomaa", sum := "626ee55d0c587c624d68b31d2c248e96e61283f36815983dfd7d4364227eb25f", func := "pigeonhole/pigeonholelaw14.PlanInserts", spec := "planInserts", unfollowed := true, recurses := true, apart := false, narrowed := true }
def PlanInsertsUptoSaid : Prop := planInsertsUptoRow.holds Try.pinned (OpenSpec.upto planInsertsSpec)

/-- 'pigeonholelaw14.PlanTwins', WHERE WHAT IT READS IS OF BULK AT MOST 1048576: true; the input reads as it did. -/
def planTwinsUptoRow : OpenClaim := { program := "ytcabofadpheomaa", sum := "626ee55d0c587c624d68b31d2c248e96e61283f36815983dfd7d4364227eb25f", func := "pigeonhole/pigeonholelaw14.PlanTwins", spec := "planTwins", unfollowed := true, recurses := true, apart := false, narrowed := true }
def PlanTwinsUptoSaid : Prop := planTwinsUptoRow.holds Try.pinned (OpenSpec.upto planTwinsSpec)

/-- 'pigeonholelaw14.PlanSets', WHERE WHAT IT READS IS OF BULK AT MOST 1048576: true; the input reads as it did. -/
def planSetsUptoRow : OpenClaim := { program := "ytcabofadpheomaa", sum := "626ee55d0c587c624d68b31d2c248e96e61283f36815983dfd7d4364227eb25f", func := "pigeonhole/pigeonholelaw14.PlanSets", spec := "planSets", unfollowed := true, recurses := true, apart := false, narrowed := true }
def PlanSetsUptoSaid : Prop := planSetsUptoRow.holds Try.pinned (OpenSpec.upto planSetsSpec)

end Rows
end Go.Proofs.Ytcabofadpheomaa
