/-
  Layer 4: contracts of the program's words: Right, Of, Match, Covers, Meet, Both, Merge, Free.
-/
import Derived.Test.YtnjbgbdcbejciaaL2a
import Derived.Test.YtnjbgbdcbejciaaL1Ones
import Derived.Test.YtnjbgbdcbejciaaL1a
import Derived.Test.YtnjbgbdcbejciaaMa
namespace Go.Proofs.Ytnjbgbdcbejciaa.L1
open Go.Sx Go.Sx.M

theorem mkW_clamp (n : Int) : mkW (clamp n) = mkW n ∧ mkW (clamp n - 64) = mkW (n - 64) :=
  ⟨mkW_congr fun i hi => by unfold clamp; omega, mkW_congr fun i hi => by unfold clamp; omega⟩

def wmatchF : List Arg → (Res → Prop) → Prop
  | [.v (.agg [.w64 v, .w64 w, .w64 m, .w64 n]), .v (.agg [.w64 a, .w64 b])], R => R (.v (.bool (wmB v w m n a b)))
  | _, _ => False

theorem wmatch_run (v w m n a b : BitVec 64) (r : AV) : run [] Try.prog 84 [.agg [.w64 v, .w64 w, .w64 m, .w64 n], .agg [.w64 a, .w64 b]] [] [] (yields (.v r)) =
    (Go.Sx.AV.bool (a &&& m == v &&& m && b &&& n == w &&& n) = r) := by kernel_rfl

theorem wmatch_ok : SpecOK Try.prog 84 (genSpec [none, none] wmatchF) := by
  refine genSpec_ok none_ok fun l R hF => ?_
  unfold wmatchF at hF
  split at hF
  · rename_i v w m n a b
    refine ⟨_, hF, rfl, [], ?_⟩
    show run [] Try.prog _ [.agg [.w64 v, .w64 w, .w64 m, .w64 n], .agg [.w64 a, .w64 b]] [] _ _
    rw [wmatch_run]
    all_goals rfl
  · exact hF.elim


def wmeetF : List Arg → (Res → Prop) → Prop
  | [.v (.agg [.w64 v, .w64 w, .w64 m, .w64 n]), .v (.agg [.w64 c, .w64 d, .w64 p, .w64 q])], R => R (.v (.bool (wtB v w m n c d p q)))
  | _, _ => False

theorem wmeet_run (v w m n c d p q : BitVec 64) (r : AV) : run [] Try.prog 76 [.agg [.w64 v, .w64 w, .w64 m, .w64 n], .agg [.w64 c, .w64 d, .w64 p, .w64 q]] [] [] (yields (.v r)) =
    (Go.Sx.AV.bool ((v ^^^ c) &&& (m &&& p) == BitVec.ofInt (64 : Nat) (0 : Int) && (w ^^^ d) &&& (n &&& q) == BitVec.ofInt (64 : Nat) (0 : Int)) = r) := by kernel_rfl

theorem wmeet_ok : SpecOK Try.prog 76 (genSpec [none, none] wmeetF) := by
  refine genSpec_ok none_ok fun l R hF => ?_
  unfold wmeetF at hF
  split at hF
  · rename_i v w m n c d p q
    refine ⟨_, hF, rfl, [], ?_⟩
    show run [] Try.prog _ [.agg [.w64 v, .w64 w, .w64 m, .w64 n], .agg [.w64 c, .w64 d, .w64 p, .w64 q]] [] _ _
    rw [wmeet_run]
    all_goals rfl
  · exact hF.elim


def wbothF : List Arg → (Res → Prop) → Prop
  | [.v (.agg [.w64 v, .w64 w, .w64 m, .w64 n]), .v (.agg [.w64 c, .w64 d, .w64 p, .w64 q])], R => R (.v (.tuple [.agg [.w64 (selW (wtB v w m n c d p q) (v &&& m ||| c &&& p)), .w64 (selW (wtB v w m n c d p q) (w &&& n ||| d &&& q)), .w64 (selW (wtB v w m n c d p q) (m ||| p)), .w64 (selW (wtB v w m n c d p q) (n ||| q))], .bool (wtB v w m n c d p q)]))
  | _, _ => False

noncomputable def wbothCs : List (FuncId × Sx.Spec) := [(76, genSpec [none, none] wmeetF)]

theorem wboth_run (v w m n c d p q : BitVec 64) (r : AV) : run wbothCs Try.prog 56 [.agg [.w64 v, .w64 w, .w64 m, .w64 n], .agg [.w64 c, .w64 d, .w64 p, .w64 q]] [] [.fork [] []] (yields (.v r)) =
    (((!Go.Sx.M.wtB v w m n c d p q) = Bool.true → Go.Sx.AV.tuple [Go.Sx.AV.agg [Go.Sx.AV.w64 (BitVec.ofInt (64 : Nat) (0 : Int)), Go.Sx.AV.w64 (BitVec.ofInt (64 : Nat) (0 : Int)), Go.Sx.AV.w64 (BitVec.ofInt (64 : Nat) (0 : Int)), Go.Sx.AV.w64 (BitVec.ofInt (64 : Nat) (0 : Int))], Go.Sx.AV.bool Bool.false] = r) ∧ ((!Go.Sx.M.wtB v w m n c d p q) = Bool.false → Go.Sx.AV.tuple [Go.Sx.AV.agg [Go.Sx.AV.w64 (v &&& m ||| c &&& p), Go.Sx.AV.w64 (w &&& n ||| d &&& q), Go.Sx.AV.w64 (m ||| p), Go.Sx.AV.w64 (n ||| q)], Go.Sx.AV.bool Bool.true] = r)) := by kernel_rfl

theorem wbothCs_ok : ∀ e ∈ wbothCs, SpecOK Try.prog e.1 e.2 := by
  intro e he
  simp only [wbothCs, List.mem_cons, List.not_mem_nil, or_false] at he
  rcases he with rfl
  · exact wmeet_ok

theorem wboth_ok : SpecOK Try.prog 56 (genSpec [none, none] wbothF) := by
  refine genSpec_ok (run_ok (l := wbothCs) wbothCs_ok mixed noNG) fun l R hF => ?_
  unfold wbothF at hF
  split at hF
  · rename_i v w m n c d p q
    refine ⟨_, hF, rfl, [.fork [] []], ?_⟩
    show run wbothCs Try.prog _ [.agg [.w64 v, .w64 w, .w64 m, .w64 n], .agg [.w64 c, .w64 d, .w64 p, .w64 q]] [] _ _
    rw [wboth_run]
    refine ⟨fun h => ?_, fun h => ?_⟩
    · rw [show wtB v w m n c d p q = false from by simpa using h]; rfl
    · rw [show wtB v w m n c d p q = true from by simpa using h]; rfl
  · exact hF.elim


def wcoversF : List Arg → (Res → Prop) → Prop
  | [.v (.agg [.w64 v, .w64 w, .w64 m, .w64 n]), .v (.agg [.w64 c, .w64 d, .w64 p, .w64 q])], R => R (.v (.bool (wcB v w m n c d p q)))
  | _, _ => False

noncomputable def wcoversCs : List (FuncId × Sx.Spec) := [(56, genSpec [none, none] wbothF)]

theorem wcovers_run (v w m n c d p q : BitVec 64) (r : AV) : run wcoversCs Try.prog 21 [.agg [.w64 v, .w64 w, .w64 m, .w64 n], .agg [.w64 c, .w64 d, .w64 p, .w64 q]] [] [.fork [] []] (yields (.v r)) =
    ((Go.Sx.M.wtB v w m n c d p q = Bool.true → Go.Sx.AV.bool (Go.Sx.M.selW (Go.Sx.M.wtB v w m n c d p q) (v &&& m ||| c &&& p) == c &&& p && Go.Sx.M.selW (Go.Sx.M.wtB v w m n c d p q) (w &&& n ||| d &&& q) == d &&& q && (Go.Sx.M.selW (Go.Sx.M.wtB v w m n c d p q) (m ||| p) == p && Go.Sx.M.selW (Go.Sx.M.wtB v w m n c d p q) (n ||| q) == q)) = r) ∧ (Go.Sx.M.wtB v w m n c d p q = Bool.false → Go.Sx.AV.bool Bool.false = r)) := by kernel_rfl

theorem wcoversCs_ok : ∀ e ∈ wcoversCs, SpecOK Try.prog e.1 e.2 := by
  intro e he
  simp only [wcoversCs, List.mem_cons, List.not_mem_nil, or_false] at he
  rcases he with rfl
  · exact wboth_ok

theorem wcovers_ok : SpecOK Try.prog 21 (genSpec [none, none] wcoversF) := by
  refine genSpec_ok (run_ok (l := wcoversCs) wcoversCs_ok mixed noNG) fun l R hF => ?_
  unfold wcoversF at hF
  split at hF
  · rename_i v w m n c d p q
    refine ⟨_, hF, rfl, [.fork [] []], ?_⟩
    show run wcoversCs Try.prog _ [.agg [.w64 v, .w64 w, .w64 m, .w64 n], .agg [.w64 c, .w64 d, .w64 p, .w64 q]] [] _ _
    rw [wcovers_run]
    refine ⟨fun h => ?_, fun h => ?_⟩
    · rw [← wcB_eq, h, Bool.true_and, ← Bool.and_assoc]
      simp only [selW, if_true, Bool.and_assoc]
    · rw [← wcB_eq, h, Bool.false_and]
  · exact hF.elim


def wrightF : List Arg → (Res → Prop) → Prop
  | [.v (.agg [.w64 v, .w64 w, .w64 m, .w64 n])], R => R (.v (.bool (v &&& m == v && w &&& n == w)))
  | _, _ => False

def wofF : List Arg → (Res → Prop) → Prop
  | [.v (.agg [.w64 a, .w64 b, .int .i64 k])], R => R (.v (.agg [.w64 (a &&& mkW k), .w64 (b &&& mkW (k - 64)), .w64 (mkW k), .w64 (mkW (k - 64))]))
  | _, _ => False

noncomputable def wofCs : List (FuncId × Sx.Spec) := [(102, genSpec [none] maskF),
  (37, genSpec [none, none] makeF)]

theorem wof_run (a b : BitVec 64) (k : Int) (r : AV) : run wofCs Try.prog 91 [.agg [.w64 a, .w64 b, .int .i64 k]] [] [] (yields (.v r)) =
    (Go.Sx.AV.agg [Go.Sx.AV.w64 (a &&& Go.Proofs.Ytnjbgbdcbejciaa.L1.mkW k), Go.Sx.AV.w64 (b &&& Go.Proofs.Ytnjbgbdcbejciaa.L1.mkW (k - (64 : Int))), Go.Sx.AV.w64 (Go.Proofs.Ytnjbgbdcbejciaa.L1.mkW (Go.Proofs.Ytnjbgbdcbejciaa.L1.clamp k)), Go.Sx.AV.w64 (Go.Proofs.Ytnjbgbdcbejciaa.L1.mkW (Go.Proofs.Ytnjbgbdcbejciaa.L1.clamp k - (64 : Int)))] = r) := by kernel_rfl

theorem wofCs_ok : ∀ e ∈ wofCs, SpecOK Try.prog e.1 e.2 := by
  intro e he
  simp only [wofCs, List.mem_cons, List.not_mem_nil, or_false] at he
  rcases he with rfl | rfl
  · exact amask_ok
  · exact pmake_ok

theorem wof_ok : SpecOK Try.prog 91 (genSpec [none] wofF) := by
  refine genSpec_ok (run_ok (l := wofCs) wofCs_ok mixed noNG) fun l R hF => ?_
  unfold wofF at hF
  split at hF
  · rename_i a b k
    refine ⟨_, hF, rfl, [], ?_⟩
    show run wofCs Try.prog _ [.agg [.w64 a, .w64 b, .int .i64 k]] [] _ _
    rw [wof_run]
    rw [(mkW_clamp k).1, (mkW_clamp k).2]
  · exact hF.elim


def wfreeF : List Arg → (Res → Prop) → Prop
  | [.v (.agg [.w64 _, .w64 _, .w64 m, .w64 n])], R => R (.v (.int .i64 (cnt 64 (~~~m).toNat + cnt 64 (~~~n).toNat)))
  | _, _ => False

noncomputable def wfreeCs : List (FuncId × Sx.Spec) := [(73, genSpec [none] onesF)]

theorem wfree_run (v w m n : BitVec 64) (r : AV) : run wfreeCs Try.prog 38 [.agg [.w64 v, .w64 w, .w64 m, .w64 n]] [] [.nw] (yields (.v r)) =
    (Go.Sx.AV.int Go.IntKind.i64 ((↑(Go.Sx.M.cnt (64 : Nat) (BitVec.toNat (~~~m))) : Int) + (↑(Go.Sx.M.cnt (64 : Nat) (BitVec.toNat (~~~n))) : Int)) = r) := by kernel_rfl

theorem wfreeCs_ok : ∀ e ∈ wfreeCs, SpecOK Try.prog e.1 e.2 := by
  intro e he
  simp only [wfreeCs, List.mem_cons, List.not_mem_nil, or_false] at he
  rcases he with rfl
  · exact ones_ok

theorem wfree_ok : SpecOK Try.prog 38 (genSpec [none] wfreeF) := by
  refine genSpec_ok (run_ok (l := wfreeCs) wfreeCs_ok mixed noNG) fun l R hF => ?_
  unfold wfreeF at hF
  split at hF
  · rename_i v w m n
    refine ⟨_, hF, rfl, [.nw], ?_⟩
    show run wfreeCs Try.prog _ [.agg [.w64 v, .w64 w, .w64 m, .w64 n]] [] _ _
    rw [wfree_run]
    all_goals rfl
  · exact hF.elim


def wmergeF : List Arg → (Res → Prop) → Prop
  | [.v (.agg [.w64 v, .w64 w, .w64 m, .w64 n]), .v (.agg [.w64 c, .w64 d, .w64 p, .w64 q])], R => R (.v (.tuple [.agg [.w64 (selW (mgB v w m n c d p q) (v &&& (m ^^^ (v ^^^ c) &&& m))), .w64 (selW (mgB v w m n c d p q) (w &&& (n ^^^ (w ^^^ d) &&& n))), .w64 (selW (mgB v w m n c d p q) (m ^^^ (v ^^^ c) &&& m)), .w64 (selW (mgB v w m n c d p q) (n ^^^ (w ^^^ d) &&& n))], .bool (mgB v w m n c d p q)]))
  | _, _ => False

noncomputable def wmergeCs : List (FuncId × Sx.Spec) := [(73, genSpec [none] onesF)]

theorem wmerge_run (v w m n c d p q : BitVec 64) (r : AV) : run wmergeCs Try.prog 88 [.agg [.w64 v, .w64 w, .w64 m, .w64 n], .agg [.w64 c, .w64 d, .w64 p, .w64 q]] [] [.fork [] [.fork [] []]] (yields (.v r)) =
    (((!(m == p && n == q)) = Bool.true → Go.Sx.AV.tuple [Go.Sx.AV.agg [Go.Sx.AV.w64 (BitVec.ofInt (64 : Nat) (0 : Int)), Go.Sx.AV.w64 (BitVec.ofInt (64 : Nat) (0 : Int)), Go.Sx.AV.w64 (BitVec.ofInt (64 : Nat) (0 : Int)), Go.Sx.AV.w64 (BitVec.ofInt (64 : Nat) (0 : Int))], Go.Sx.AV.bool Bool.false] = r) ∧ ((!(m == p && n == q)) = Bool.false → (((↑(Go.Sx.M.cnt (64 : Nat) (BitVec.toNat ((v ^^^ c) &&& m))) : Int) + (↑(Go.Sx.M.cnt (64 : Nat) (BitVec.toNat ((w ^^^ d) &&& n))) : Int) != (1 : Int)) = Bool.true → Go.Sx.AV.tuple [Go.Sx.AV.agg [Go.Sx.AV.w64 (BitVec.ofInt (64 : Nat) (0 : Int)), Go.Sx.AV.w64 (BitVec.ofInt (64 : Nat) (0 : Int)), Go.Sx.AV.w64 (BitVec.ofInt (64 : Nat) (0 : Int)), Go.Sx.AV.w64 (BitVec.ofInt (64 : Nat) (0 : Int))], Go.Sx.AV.bool Bool.false] = r) ∧ (((↑(Go.Sx.M.cnt (64 : Nat) (BitVec.toNat ((v ^^^ c) &&& m))) : Int) + (↑(Go.Sx.M.cnt (64 : Nat) (BitVec.toNat ((w ^^^ d) &&& n))) : Int) != (1 : Int)) = Bool.false → Go.Sx.AV.tuple [Go.Sx.AV.agg [Go.Sx.AV.w64 (v &&& (m ^^^ (v ^^^ c) &&& m)), Go.Sx.AV.w64 (w &&& (n ^^^ (w ^^^ d) &&& n)), Go.Sx.AV.w64 (m ^^^ (v ^^^ c) &&& m), Go.Sx.AV.w64 (n ^^^ (w ^^^ d) &&& n)], Go.Sx.AV.bool Bool.true] = r))) := by kernel_rfl

theorem wmergeCs_ok : ∀ e ∈ wmergeCs, SpecOK Try.prog e.1 e.2 := by
  intro e he
  simp only [wmergeCs, List.mem_cons, List.not_mem_nil, or_false] at he
  rcases he with rfl
  · exact ones_ok

theorem wmerge_ok : SpecOK Try.prog 88 (genSpec [none, none] wmergeF) := by
  refine genSpec_ok (run_ok (l := wmergeCs) wmergeCs_ok mixed noNG) fun l R hF => ?_
  unfold wmergeF at hF
  split at hF
  · rename_i v w m n c d p q
    refine ⟨_, hF, rfl, [.fork [] [.fork [] []]], ?_⟩
    show run wmergeCs Try.prog _ [.agg [.w64 v, .w64 w, .w64 m, .w64 n], .agg [.w64 c, .w64 d, .w64 p, .w64 q]] [] _ _
    rw [wmerge_run]
    rw [← Int.natCast_add, cnt_words]
    refine ⟨fun h => ?_, fun h => ⟨fun h2 => ?_, fun h2 => ?_⟩⟩
    · rw [show mgB v w m n c d p q = false from by unfold mgB; rw [show (m == p && n == q) = false from by
          cases hh : (m == p && n == q) with
          | false => rfl
          | true => rw [hh] at h; exact absurd h (by decide)]; rfl]; rfl
    · rw [show mgB v w m n c d p q = false from by
        unfold mgB
        rw [Bool.and_eq_false_iff]; right
        simp only [bne_iff_ne, ne_eq] at h2
        rw [beq_eq_false_iff_ne]; omega]
      rfl
    · rw [show mgB v w m n c d p q = true from by
        unfold mgB
        rw [Bool.and_eq_true]
        refine ⟨by simpa [andAll] using h, ?_⟩
        simp only [bne_eq_false_iff_eq] at h2
        rw [beq_iff_eq]; omega]
      rfl
  · exact hF.elim


end Go.Proofs.Ytnjbgbdcbejciaa.L1
