/-
  Layer 4: contracts of the program's words: Right, Of, Match, Covers, Meet, Both, Merge, Free.
-/
import Derived.Test.YteagcgocmdjobaaL2A
import Derived.Test.YteagcgocmdjobaaL1a
import Derived.Test.YteagcgocmdjobaaMa
namespace Go.Proofs.Yteagcgocmdjobaa.L1
open Go.Sx Go.Sx.M

theorem mkW_clamp (n : Int) : mkW (clamp n) = mkW n ∧ mkW (clamp n - 64) = mkW (n - 64) :=
  ⟨mkW_congr fun i hi => by unfold clamp; omega, mkW_congr fun i hi => by unfold clamp; omega⟩

def wmatchF : List Arg → (Res → Prop) → Prop
  | [.v (.agg [.w64 v, .w64 w, .w64 m, .w64 n]), .v (.agg [.w64 a, .w64 b])], R => R (.v (.bool (wmB v w m n a b)))
  | _, _ => False

theorem wmatch_run (v w m n a b : BitVec 64) (r : AV) : run [] Try.prog 52 [.agg [.w64 v, .w64 w, .w64 m, .w64 n], .agg [.w64 a, .w64 b]] [] [] (yields (.v r)) =
    (Go.Sx.AV.bool (a &&& m == v &&& m && b &&& n == w &&& n) = r) := by kernel_rfl

theorem wmatch_ok : SpecOK Try.prog 52 (genSpec [none, none] wmatchF) := by
  refine genSpec_ok none_ok fun l R hF => ?_
  unfold wmatchF at hF
  split at hF
  · rename_i v w m n a b
    refine ⟨_, hF, rfl, [], ?_⟩
    show run [] Try.prog _ [.agg [.w64 v, .w64 w, .w64 m, .w64 n], .agg [.w64 a, .w64 b]] [] _ _
    rw [wmatch_run]
    all_goals rfl
  · exact hF.elim


def wmeetF : List Arg → (Res → Prop) → Prop
  | [.v (.agg [.w64 v, .w64 w, .w64 m, .w64 n]), .v (.agg [.w64 c, .w64 d, .w64 p, .w64 q])], R => R (.v (.bool (wtB v w m n c d p q)))
  | _, _ => False

def wrightF : List Arg → (Res → Prop) → Prop
  | [.v (.agg [.w64 v, .w64 w, .w64 m, .w64 n])], R => R (.v (.bool (v &&& m == v && w &&& n == w)))
  | _, _ => False

theorem wright_run (v w m n : BitVec 64) (r : AV) : run [] Try.prog 54 [.agg [.w64 v, .w64 w, .w64 m, .w64 n]] [] [] (yields (.v r)) =
    (Go.Sx.AV.bool (v &&& m == v && w &&& n == w && (m == m && n == n)) = r) := by kernel_rfl

theorem wright_ok : SpecOK Try.prog 54 (genSpec [none] wrightF) := by
  refine genSpec_ok none_ok fun l R hF => ?_
  unfold wrightF at hF
  split at hF
  · rename_i v w m n
    refine ⟨_, hF, rfl, [], ?_⟩
    show run [] Try.prog _ [.agg [.w64 v, .w64 w, .w64 m, .w64 n]] [] _ _
    rw [wright_run]
    simp
  · exact hF.elim


def wofF : List Arg → (Res → Prop) → Prop
  | [.v (.agg [.w64 a, .w64 b, .int .i64 k])], R => R (.v (.agg [.w64 (a &&& mkW k), .w64 (b &&& mkW (k - 64)), .w64 (mkW k), .w64 (mkW (k - 64))]))
  | _, _ => False

noncomputable def wofCs : List (FuncId × Sx.Spec) := [(57, genSpec [none] maskF),
  (47, genSpec [none, none] makeF)]

theorem wof_run (a b : BitVec 64) (k : Int) (r : AV) : run wofCs Try.prog 48 [.agg [.w64 a, .w64 b, .int .i64 k]] [] [] (yields (.v r)) =
    (Go.Sx.AV.agg [Go.Sx.AV.w64 (a &&& Go.Proofs.Yteagcgocmdjobaa.L1.mkW k), Go.Sx.AV.w64 (b &&& Go.Proofs.Yteagcgocmdjobaa.L1.mkW (k - (64 : Int))), Go.Sx.AV.w64 (Go.Proofs.Yteagcgocmdjobaa.L1.mkW (Go.Proofs.Yteagcgocmdjobaa.L1.clamp k)), Go.Sx.AV.w64 (Go.Proofs.Yteagcgocmdjobaa.L1.mkW (Go.Proofs.Yteagcgocmdjobaa.L1.clamp k - (64 : Int)))] = r) := by kernel_rfl

theorem wofCs_ok : ∀ e ∈ wofCs, SpecOK Try.prog e.1 e.2 := by
  intro e he
  simp only [wofCs, List.mem_cons, List.not_mem_nil, or_false] at he
  rcases he with rfl | rfl
  · exact amask_ok
  · exact pmake_ok

theorem wof_ok : SpecOK Try.prog 48 (genSpec [none] wofF) := by
  refine genSpec_ok (run_ok (l := wofCs) wofCs_ok mixed noNG) fun l R hF => ?_
  unfold wofF at hF
  split at hF
  · rename_i a b k
    refine ⟨_, hF, rfl, [], ?_⟩
    show run wofCs Try.prog _ [.agg [.w64 a, .w64 b, .int .i64 k]] [] _ _
    rw [wof_run]
    rw [(mkW_clamp k).1, (mkW_clamp k).2]
  · exact hF.elim


end Go.Proofs.Yteagcgocmdjobaa.L1
