/-
  Layer 5: contracts of the document's Tell, Ordered, Compare; of the law's One and Of.
-/
import Derived.Test.YteagcgocmdjobaaL5A
import Derived.Test.YteagcgocmdjobaaMa
namespace Go.Proofs.Yteagcgocmdjobaa.L1
open Go.Sx Go.Sx.M

def roSt (l : List En) (p : Nat) : St := ⟨[.vsl 0 0 (l.map enE).length, .any, .any, .int .i64 p, .any, .any, .any, .any, .any, .any, .any, .any, .any, .any, .any, .any, .any, .any, .any, .any, .any, .any, .any, .any, .any, .any, .any, .any], [some ⟨false, 48, 6, true, l.map enE⟩]⟩
def roSt2 (l : List En) (p k : Nat) : St := ⟨[.vsl 0 0 (l.map enE).length, .any, .any, .int .i64 p, .int .i64 k, .any, .any, .any, .any, .any, .any, .any, .any, .any, .any, .any, .any, .any, .any, .any, .any, .any, .any, .any, .any, .any, .any, .any], [some ⟨false, 48, 6, true, l.map enE⟩]⟩
def roM0 : Modes := ⟨[1, 0, 0, 2, 0, 0, 0, 0, 0, 0, 0, 0, 0, 0, 0, 0, 0, 0, 0, 0, 0, 0, 0, 0, 0, 0, 0, 0], [], [], [], []⟩
def roM : Modes := ⟨[1, 0, 0, 1, 0, 0, 0, 0, 0, 0, 0, 0, 0, 0, 0, 0, 0, 0, 0, 0, 0, 0, 0, 0, 0, 0, 0, 0], [], [], [], []⟩
def roM' : Modes := ⟨[0, 0, 1, 0, 0, 0, 0, 0, 0, 0, 0, 0, 0, 0, 0, 0, 0, 0, 0, 0, 0, 0, 0, 0, 0, 0, 0, 0], [], [], [], []⟩
def roN0 : Modes := ⟨[1, 0, 0, 1, 2, 0, 0, 0, 0, 0, 0, 0, 0, 0, 0, 0, 0, 0, 0, 0, 0, 0, 0, 0, 0, 0, 0, 0], [], [], [], []⟩
def roN : Modes := ⟨[1, 0, 0, 1, 1, 0, 0, 0, 0, 0, 0, 0, 0, 0, 0, 0, 0, 0, 0, 0, 0, 0, 0, 0, 0, 0, 0, 0], [], [], [], []⟩
def roN' : Modes := ⟨[1, 0, 1, 1, 0, 0, 0, 0, 0, 0, 0, 0, 0, 0, 0, 0, 0, 0, 0, 0, 0, 0, 0, 0, 0, 0, 0, 0], [], [], [], []⟩
def roI (l : List En) (p : Nat) : Prop := p ≤ l.length ∧ ∀ i, i < p → ∀ k, k < l.length → i < k → abE (at' l k) (at' l i) = false
def roI2 (l : List En) (p k : Nat) : Prop := p < k ∧ k ≤ l.length ∧ ∀ j, p < j → j < k → abE (at' l j) (at' l p) = false
def roH (l : List En) : List Hint := [.linv _ 0 (roSt l) (roI l) (fun p => l.length + 1 - p) roM0 roM roM' (fun _ => []) fun p =>
  [.fork [.nw, .linv _ (p + 1) (roSt2 l p) (roI2 l p) (fun k => l.length + 1 - k) roN0 roN roN' (fun _ => [.nw]) fun k =>
    [.fork [.dy, .cell (enE (at' l k)), .dy, .cell (enE (at' l p)), .fork [] [.nw]] []]] []]]

def rtellF : List Arg → (Res → Prop) → Prop
  | [.row r_l, .v (.agg [.w64 a, .w64 b])], R => r_l = (deE r_l).map enE ∧ (deE r_l).length ≤ 9223372036854775807 ∧ R (.v (.int .i64 (tlI (deE r_l) a b)))
  | _, _ => False

noncomputable def rtellCs : List (FuncId × Sx.Spec) := [(45, genSpec [pRefE, none] rbestF)]

theorem rtell_run (l : List En) (a b : BitVec 64) (r : AV) : run rtellCs Try.prog 33 [.vsl 0 0 (l.map enE).length, .agg [.w64 a, .w64 b]] [some ⟨false, (pRefE.getD (0, 0)).1, (pRefE.getD (0, 0)).2, true, (l.map enE)⟩] [.fork [] [.dy, .cell (.int .i64 (at' l (bsI l a b).toNat).act)]] (yields (.v r)) =
    ((0 : Nat) + List.length (List.map enE l) ≤ List.length (List.map enE l) ∧ List.take (List.length (List.map enE l)) (List.drop (0 : Nat) (List.map enE l)) = List.map enE (deE (List.take (List.length (List.map enE l)) (List.drop (0 : Nat) (List.map enE l)))) ∧ List.length (deE (List.take (List.length (List.map enE l)) (List.drop (0 : Nat) (List.map enE l)))) ≤ (9223372036854775807 : Nat) ∧ (Decidable.decide (bsI (deE (List.take (List.length (List.map enE l)) (List.drop (0 : Nat) (List.map enE l)))) a b < (0 : Int)) = true → AV.int IntKind.i64 (0 : Int) = r) ∧ (Decidable.decide (bsI (deE (List.take (List.length (List.map enE l)) (List.drop (0 : Nat) (List.map enE l)))) a b < (0 : Int)) = false → ((0 : Int) ≤ bsI (deE (List.take (List.length (List.map enE l)) (List.drop (0 : Nat) (List.map enE l)))) a b ∧ bsI (deE (List.take (List.length (List.map enE l)) (List.drop (0 : Nat) (List.map enE l)))) a b < (↑(List.length (List.map enE l)) : Int)) ∧ Blk.read Proofs.Try.prog (Blk.mk false (nat_lit 48) (6 : Nat) true (List.map enE l)) (3 : Nat) ((0 : Nat) + Int.toNat (bsI (deE (List.take (List.length (List.map enE l)) (List.drop (0 : Nat) (List.map enE l)))) a b)) ((0 : Nat) + (5 : Nat)) = some (AV.int IntKind.i64 (at' l (Int.toNat (bsI l a b))).6) ∧ AV.int IntKind.i64 (at' l (Int.toNat (bsI l a b))).6 = r)) := by kernel_rfl

theorem rtellCs_ok : ∀ e ∈ rtellCs, SpecOK Try.prog e.1 e.2 := by
  intro e he
  simp only [rtellCs, List.mem_cons, List.not_mem_nil, or_false] at he
  rcases he with rfl
  · exact rbest_ok

theorem rtell_ok : SpecOK Try.prog 33 (genSpec [pRefE, none] rtellF) := by
  refine genSpec_ok (run_ok (l := rtellCs) rtellCs_ok mixed noNG) fun l R hF => ?_
  unfold rtellF at hF
  split at hF
  · rename_i r_l a b
    obtain ⟨hr_l, hl, hF⟩ := hF
    generalize deE r_l = l at hr_l hl hF
    subst hr_l
    refine ⟨_, hF, rfl, [.fork [] [.dy, .cell (.int .i64 (at' l (bsI l a b).toNat).act)]], ?_⟩
    show run rtellCs Try.prog _ [.vsl 0 0 (l.map enE).length, .agg [.w64 a, .w64 b]] [some ⟨false, (pRefE.getD (0, 0)).1, (pRefE.getD (0, 0)).2, true, (l.map enE)⟩] _ _
    rw [rtell_run]
    rw [whole_row, deE_map]
    refine ⟨by simp, rfl, hl, fun h => ?_, fun h => ?_⟩
    · unfold tlI
      rw [if_pos (by simpa using h)]
    · simp only [decide_eq_false_iff_not] at h
      have B : 0 ≤ bsI l a b ∧ bsI l a b < ((l.map enE).length : Int) := by
        rcases bsI_spec l a b with ⟨h1, _⟩ | ⟨i, h1, _, h2, _⟩
        · omega
        · rw [h1, List.length_map]; omega
      refine ⟨B, read_rows B.1 B.2 (ref_act _), ?_⟩
      unfold tlI
      rw [if_neg h]
  · exact hF.elim


def rorderedF : List Arg → (Res → Prop) → Prop
  | [.row r_l], R => r_l = (deE r_l).map enE ∧ (deE r_l).length ≤ 9223372036854775807 ∧ R (.v (.bool (orE (deE r_l))))
  | _, _ => False

noncomputable def rorderedCs : List (FuncId × Sx.Spec) := [(44, genSpec [none, none] raboveF)]

theorem rordered_run (l : List En) (r : AV) : run rorderedCs Try.prog 32 [.vsl 0 0 (l.map enE).length] [some ⟨false, (pRefE.getD (0, 0)).1, (pRefE.getD (0, 0)).2, true, (l.map enE)⟩] (roH l) (yields (.v r)) =
    ((St.mk [AV.vsl (0 : Nat) (0 : Nat) (List.length (List.map enE l)), AV.any, AV.any, AV.int IntKind.i64 (0 : Int), AV.any, AV.any, AV.any, AV.any, AV.any, AV.any, AV.any, AV.any, AV.any, AV.any, AV.any, AV.any, AV.any, AV.any, AV.any, AV.any, AV.any, AV.any, AV.any, AV.any, AV.any, AV.any, AV.any, AV.any] [some (Blk.mk false (nat_lit 48) (6 : Nat) true (List.map enE l))] = roSt l (0 : Nat) ∧ roI l (0 : Nat)) ∧ ∀ (p : Nat), roI l p → (Decidable.decide ((↑p : Int) < (↑(List.length (List.map enE l)) : Int)) = true → inRange IntKind.i64 ((↑p : Int) + (1 : Int)) ∧ (St.mk [AV.vsl (0 : Nat) (0 : Nat) (List.length (List.map enE l)), AV.any, AV.any, AV.int IntKind.i64 (↑p : Int), AV.int IntKind.i64 ((↑p : Int) + (1 : Int)), AV.any, AV.any, AV.any, AV.any, AV.any, AV.any, AV.any, AV.any, AV.any, AV.any, AV.any, AV.any, AV.any, AV.any, AV.any, AV.any, AV.any, AV.any, AV.any, AV.any, AV.any, AV.any, AV.any] [some (Blk.mk false (48 : TypeId) (6 : Nat) true (List.map enE l))] = roSt2 l p (p + (1 : Nat)) ∧ roI2 l p (p + (1 : Nat))) ∧ ∀ (p_1 : Nat), roI2 l p p_1 → (Decidable.decide ((↑p_1 : Int) < (↑(List.length (List.map enE l)) : Int)) = true → ((0 : Int) ≤ (↑p_1 : Int) ∧ (↑p_1 : Int) < (↑(List.length (List.map enE l)) : Int)) ∧ Blk.read Proofs.Try.prog (Blk.mk false (48 : TypeId) (6 : Nat) true (List.map enE l)) (48 : Nat) ((0 : Nat) + Int.toNat (↑p_1 : Int)) (0 : Nat) = some (AV.agg [AV.w64 (at' l p_1).1, AV.w64 (at' l p_1).2, AV.w64 (at' l p_1).3, AV.w64 (at' l p_1).4, AV.int IntKind.i64 (at' l p_1).5, AV.int IntKind.i64 (at' l p_1).6]) ∧ ((0 : Int) ≤ (↑p : Int) ∧ (↑p : Int) < (↑(List.length (List.map enE l)) : Int)) ∧ Blk.read Proofs.Try.prog (Blk.mk false (48 : TypeId) (6 : Nat) true (List.map enE l)) (48 : Nat) ((0 : Nat) + Int.toNat (↑p : Int)) (0 : Nat) = some (AV.agg [AV.w64 (at' l p).1, AV.w64 (at' l p).2, AV.w64 (at' l p).3, AV.w64 (at' l p).4, AV.int IntKind.i64 (at' l p).5, AV.int IntKind.i64 (at' l p).6]) ∧ (abE (En.mk (at' l p_1).1 (at' l p_1).2 (at' l p_1).3 (at' l p_1).4 (at' l p_1).5 (at' l p_1).6) (En.mk (at' l p).1 (at' l p).2 (at' l p).3 (at' l p).4 (at' l p).5 (at' l p).6) = true → AV.bool false = r) ∧ (abE (En.mk (at' l p_1).1 (at' l p_1).2 (at' l p_1).3 (at' l p_1).4 (at' l p_1).5 (at' l p_1).6) (En.mk (at' l p).1 (at' l p).2 (at' l p).3 (at' l p).4 (at' l p).5 (at' l p).6) = false → inRange IntKind.i64 ((↑p_1 : Int) + (1 : Int)) ∧ ∃ (p' : Nat), St.mk [AV.vsl (0 : Nat) (0 : Nat) (List.length (List.map enE l)), AV.any, AV.any, AV.int IntKind.i64 (↑p : Int), AV.int IntKind.i64 ((↑p_1 : Int) + (1 : Int)), AV.any, AV.any, AV.any, AV.any, AV.any, AV.any, AV.any, AV.any, AV.any, AV.any, AV.any, AV.any, AV.any, AV.any, AV.any, AV.any, AV.any, AV.any, AV.any, AV.any, AV.any, AV.any, AV.any] [some (Blk.mk false (48 : TypeId) (6 : Nat) true (List.map enE l))] = roSt2 l p p' ∧ roI2 l p p' ∧ List.length l + (1 : Nat) - p' < List.length l + (1 : Nat) - p_1)) ∧ (Decidable.decide ((↑p_1 : Int) < (↑(List.length (List.map enE l)) : Int)) = false → inRange IntKind.i64 ((↑p : Int) + (1 : Int)) ∧ ∃ (p' : Nat), St.mk [AV.vsl (0 : Nat) (0 : Nat) (List.length (List.map enE l)), AV.any, AV.any, AV.int IntKind.i64 ((↑p : Int) + (1 : Int)), AV.any, AV.any, AV.any, AV.any, AV.any, AV.any, AV.any, AV.any, AV.any, AV.any, AV.any, AV.any, AV.any, AV.any, AV.any, AV.any, AV.any, AV.any, AV.any, AV.any, AV.any, AV.any, AV.any, AV.any] [some (Blk.mk false (48 : TypeId) (6 : Nat) true (List.map enE l))] = roSt l p' ∧ roI l p' ∧ List.length l + (1 : Nat) - p' < List.length l + (1 : Nat) - p)) ∧ (Decidable.decide ((↑p : Int) < (↑(List.length (List.map enE l)) : Int)) = false → AV.bool true = r)) := by kernel_rfl

theorem rorderedCs_ok : ∀ e ∈ rorderedCs, SpecOK Try.prog e.1 e.2 := by
  intro e he
  simp only [rorderedCs, List.mem_cons, List.not_mem_nil, or_false] at he
  rcases he with rfl
  · exact rabove_ok

theorem rordered_ok : SpecOK Try.prog 32 (genSpec [pRefE] rorderedF) := by
  refine genSpec_ok (run_ok (l := rorderedCs) rorderedCs_ok mixed noNG) fun l R hF => ?_
  unfold rorderedF at hF
  split at hF
  · rename_i r_l
    obtain ⟨hr_l, hl, hF⟩ := hF
    generalize deE r_l = l at hr_l hl hF
    subst hr_l
    refine ⟨_, hF, rfl, (roH l), ?_⟩
    show run rorderedCs Try.prog _ [.vsl 0 0 (l.map enE).length] [some ⟨false, (pRefE.getD (0, 0)).1, (pRefE.getD (0, 0)).2, true, (l.map enE)⟩] _ _
    rw [rordered_run]
    refine ⟨⟨rfl, Nat.zero_le _, fun i hi => by omega⟩, ?_⟩
    rintro p ⟨h1, h2⟩
    refine ⟨fun hlt => ?_, fun hge => ?_⟩
    · have hp : p < l.length := by simp only [decide_eq_true_eq, List.length_map] at hlt; omega
      have Bp : 0 ≤ (p : Int) ∧ (p : Int) < ((l.map enE).length : Int) := by rw [List.length_map]; omega
      refine ⟨inR (by omega) (by omega), ⟨rfl, by omega, by omega, fun j h3 h4 => by omega⟩, ?_⟩
      rintro k ⟨h3, h4, h5⟩
      refine ⟨fun hlt => ?_, fun hge => ?_⟩
      · have hk : k < l.length := by simp only [decide_eq_true_eq, List.length_map] at hlt; omega
        have Bk : 0 ≤ (k : Int) ∧ (k : Int) < ((l.map enE).length : Int) := by rw [List.length_map]; omega
        refine ⟨Bk, read_rows Bk.1 Bk.2 (ref_whole _), Bp, read_rows Bp.1 Bp.2 (ref_whole _), fun ha => ?_, fun ha => ⟨inR (by omega) (by omega), k + 1, rfl, ⟨by omega, by omega, fun j h6 h7 => ?_⟩, by omega⟩⟩
        · rw [notT orE_iff fun h => by
            have := h p hp k hk h3
            rw [show abE (at' l k) (at' l p) = true from ha] at this; cases this]
        · rcases Nat.lt_or_eq_of_le (Nat.le_of_lt_succ h7) with h | rfl
          · exact h5 j h6 h
          · exact ha
      · have hk : k = l.length := by simp only [decide_eq_false_iff_not, List.length_map] at hge; omega
        subst hk
        refine ⟨inR (by omega) (by omega), p + 1, rfl, ⟨by omega, fun i hi k hk hik => ?_⟩, by omega⟩
        rcases Nat.lt_or_eq_of_le (Nat.le_of_lt_succ hi) with h | rfl
        · exact h2 i h k hk hik
        · exact h5 k hik hk
    · have hp : p = l.length := by simp only [decide_eq_false_iff_not, List.length_map] at hge; omega
      subst hp
      rw [orE_iff.2 h2]
  · exact hF.elim


def rcompareF : List Arg → (Res → Prop) → Prop
  | [.v (.agg [.w64 v, .w64 w, .w64 m, .w64 n, .int .i64 k, .int .i64 j]), .v (.agg [.w64 c, .w64 d, .w64 p, .w64 q, .int .i64 s, .int .i64 t])], R => R (.v (.int .i64 (cpE ⟨v, w, m, n, k, j⟩ ⟨c, d, p, q, s, t⟩)))
  | _, _ => False

def one5F : List Arg → (Res → Prop) → Prop
  | [.v (.agg [.w64 v, .w64 w, .w64 m, .w64 n, .int .i64 k, .int .i64 j])], R => R (.v (.agg [.w64 v, .w64 w, .w64 m, .w64 n, .int .i64 k, .int .i64 j]))
  | _, _ => False

theorem one5_run (v w m n : BitVec 64) (k j : Int) (r : AV) : run [] Try.prog 26 [.agg [.w64 v, .w64 w, .w64 m, .w64 n, .int .i64 k, .int .i64 j]] [] [] (yields (.v r)) =
    (AV.agg [AV.w64 v, AV.w64 w, AV.w64 m, AV.w64 n, AV.int IntKind.i64 k, AV.int IntKind.i64 j] = r) := by kernel_rfl

theorem one5_ok : SpecOK Try.prog 26 (genSpec [none] one5F) := by
  refine genSpec_ok none_ok fun l R hF => ?_
  unfold one5F at hF
  split at hF
  · rename_i v w m n k j
    refine ⟨_, hF, rfl, [], ?_⟩
    show run [] Try.prog _ [.agg [.w64 v, .w64 w, .w64 m, .w64 n, .int .i64 k, .int .i64 j]] [] _ _
    rw [one5_run]
    all_goals rfl
  · exact hF.elim


theorem en_whole (x : En) : partOf Try.prog 35 (enE x).cells 0 = some (enE x) := by kernel_rfl

def pEn : Par := some (35, 6)

end Go.Proofs.Yteagcgocmdjobaa.L1
