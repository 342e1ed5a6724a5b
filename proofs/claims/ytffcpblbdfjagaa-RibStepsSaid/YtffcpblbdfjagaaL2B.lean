/-
  Layer 2: contracts of Last, Join, Compare, Parent, Sibling, Of.
-/
import Derived.Test.YtffcpblbdfjagaaL2A
import Derived.Test.YtffcpblbdfjagaaL2R
import Derived.Test.YtffcpblbdfjagaaL2Join
import Derived.Test.YtffcpblbdfjagaaL1Cmp
namespace Go.Proofs.Ytffcpblbdfjagaa.L1
open Go.Sx Go.Sx.M

/-- Which of two numbers is the greater one. -/
def cmpI (m n : Int) : Int := if m = n then 0 else if m < n then -1 else 1

def orI (m n : Int) : Int := if m = 0 then n else m

def pInt : Par := some (3, 1)


theorem cmpi_run (m n : Int) (r : AV) : run [] Try.prog 58 [.int .i64 m, .int .i64 n] [] [.br false, .br false, .fork [] [.fork [] []]] (yields (.v r)) =
    ((m != m) = Bool.false ∧ (n != n) = Bool.false ∧ (Decidable.decide (m < n) = Bool.true → Go.Sx.AV.int Go.IntKind.i64 (-1 : Int) = r) ∧ (Decidable.decide (m < n) = Bool.false → (Decidable.decide (m > n) = Bool.true → Go.Sx.AV.int Go.IntKind.i64 (1 : Int) = r) ∧ (Decidable.decide (m > n) = Bool.false → Go.Sx.AV.int Go.IntKind.i64 (0 : Int) = r))) := by kernel_rfl

theorem or_run (m n : Int) (r : AV) : run [] Try.prog 56 [.vsl 0 0 2] [some ⟨false, 3, 1, true, [.int .i64 m, .int .i64 n]⟩] [.loop 3, .br true, .cell (.int .i64 m), .fork [] [.br true, .cell (.int .i64 n), .fork [] [.br false]]] (yields (.v r)) =
    (Decidable.decide ((0 : Int) < (↑(2 : Nat) : Int)) = Bool.true ∧ ((0 : Int) ≤ (0 : Int) ∧ (0 : Int) < (↑(2 : Nat) : Int)) ∧ Go.Sx.Blk.read Go.Proofs.Try.prog (Go.Sx.Blk.mk Bool.false (3 : Go.TypeId) (1 : Nat) Bool.true [Go.Sx.AV.int Go.IntKind.i64 m, Go.Sx.AV.int Go.IntKind.i64 n]) (3 : Nat) ((0 : Nat) + Int.toNat (0 : Int)) (0 : Nat) = Option.some (Go.Sx.AV.int Go.IntKind.i64 m) ∧ ((m != (0 : Int)) = Bool.true → Go.Sx.AV.int Go.IntKind.i64 m = r) ∧ ((m != (0 : Int)) = Bool.false → Decidable.decide ((1 : Int) < (↑(2 : Nat) : Int)) = Bool.true ∧ ((0 : Int) ≤ (1 : Int) ∧ (1 : Int) < (↑(2 : Nat) : Int)) ∧ Go.Sx.Blk.read Go.Proofs.Try.prog (Go.Sx.Blk.mk Bool.false (3 : Go.TypeId) (1 : Nat) Bool.true [Go.Sx.AV.int Go.IntKind.i64 m, Go.Sx.AV.int Go.IntKind.i64 n]) (3 : Nat) ((0 : Nat) + Int.toNat (1 : Int)) (0 : Nat) = Option.some (Go.Sx.AV.int Go.IntKind.i64 n) ∧ ((n != (0 : Int)) = Bool.true → Go.Sx.AV.int Go.IntKind.i64 n = r) ∧ ((n != (0 : Int)) = Bool.false → Decidable.decide ((2 : Int) < (↑(2 : Nat) : Int)) = Bool.false ∧ Go.Sx.AV.int Go.IntKind.i64 (0 : Int) = r))) := by kernel_rfl

def cmpiF : List Arg → (Res → Prop) → Prop
  | [.v (.int .i64 m), .v (.int .i64 n)], R => R (.v (.int .i64 (cmpI m n)))
  | _, _ => False

theorem cmpi_ok : SpecOK Try.prog 58 (genSpec [none, none] cmpiF) := by
  refine genSpec_ok none_ok fun l R hF => ?_
  unfold cmpiF at hF
  split at hF
  · rename_i m n
    refine ⟨_, hF, rfl, [.br false, .br false, .fork [] [.fork [] []]], ?_⟩
    show run [] Try.prog _ [.int .i64 m, .int .i64 n] [] _ _
    rw [cmpi_run]
    simp only [decide_eq_true_eq, decide_eq_false_iff_not]
    refine ⟨by simp, by simp, fun h => ?_, fun h => ⟨fun h2 => ?_, fun h2 => ?_⟩⟩
    all_goals
      congr 1
      unfold cmpI
    · rw [if_neg (by omega), if_pos h]
    · rw [if_neg (by omega), if_neg h]
    · rw [if_pos (by omega)]
  · exact hF.elim

def orF : List Arg → (Res → Prop) → Prop
  | [.row es], R => ∃ m n, es = [.int .i64 m, .int .i64 n] ∧ R (.v (.int .i64 (orI m n)))
  | _, _ => False

theorem or_ok : SpecOK Try.prog 56 (genSpec [pInt] orF) := by
  refine genSpec_ok none_ok fun l R hF => ?_
  unfold orF at hF
  split at hF
  · obtain ⟨m, n, rfl, hF⟩ := hF
    refine ⟨_, hF, rfl, [.loop 3, .br true, .cell (.int .i64 m), .fork [] [.br true, .cell (.int .i64 n), .fork [] [.br false]]], ?_⟩
    show run [] Try.prog _ [.vsl 0 0 2] [some ⟨false, 3, 1, true, [.int .i64 m, .int .i64 n]⟩] _ _
    rw [or_run]
    refine ⟨by decide, by decide, by kernel_rfl, fun h => ?_, fun h => ⟨by decide, by decide, by kernel_rfl, fun h2 => ?_, fun h2 => ⟨by decide, ?_⟩⟩⟩
    all_goals
      congr 1
      unfold orI
      simp only [bne_iff_ne, ne_eq, bne_eq_false_iff_eq] at *
    · rw [if_neg h]
    · rw [if_pos h]
    · rw [if_pos h, h2]
  · exact hF.elim

/-- The order of two prefixes. -/
def cmpP (a b : BitVec 64) (n : Int) (c d : BitVec 64) (m : Int) : Int := orI (cmpV (V a b) (V c d)) (cmpI n m)

def cmppF : List Arg → (Res → Prop) → Prop
  | [.v (.agg [.w64 a, .w64 b, .int .i64 n]), .v (.agg [.w64 c, .w64 d, .int .i64 m])], R => R (.v (.int .i64 (cmpP a b n c d m)))
  | _, _ => False

noncomputable def cmppCs : List (FuncId × Sx.Spec) := [(57, genSpec [none, none] cmpF), (58, genSpec [none, none] cmpiF), (56, genSpec [pInt] orF)]

theorem cmpp_run (a b : BitVec 64) (n : Int) (c d : BitVec 64) (m : Int) (r : AV) : run cmppCs Try.prog 42 [.agg [.w64 a, .w64 b, .int .i64 n], .agg [.w64 c, .w64 d, .int .i64 m]] [] [] (yields (.v r)) =
    (∃ (m_1 : Int), ∃ (n_1 : Int), [Go.Sx.AV.int Go.IntKind.i64 (Go.Sx.M.cmpV (Go.Sx.M.V a b) (Go.Sx.M.V c d)), Go.Sx.AV.int Go.IntKind.i64 (Go.Proofs.Ytffcpblbdfjagaa.L1.cmpI n m)] = [Go.Sx.AV.int Go.IntKind.i64 m_1, Go.Sx.AV.int Go.IntKind.i64 n_1] ∧ Go.Sx.AV.int Go.IntKind.i64 (Go.Proofs.Ytffcpblbdfjagaa.L1.orI m_1 n_1) = r) := by kernel_rfl

theorem cmppCs_ok : ∀ e ∈ cmppCs, SpecOK Try.prog e.1 e.2 := by
  intro e he
  simp only [cmppCs, List.mem_cons, List.not_mem_nil, or_false] at he
  rcases he with rfl | rfl | rfl
  · exact acmp_ok
  · exact cmpi_ok
  · exact or_ok

noncomputable def ofCs : List (FuncId × Sx.Spec) := [(54, genSpec [none, none] cutF)]

theorem cmpp_ok : SpecOK Try.prog 42 (genSpec [none, none] cmppF) := by
  refine genSpec_ok (run_ok (l := cmppCs) cmppCs_ok mixed noNG) fun l R hF => ?_
  unfold cmppF at hF
  split at hF
  · rename_i a b n c d m
    refine ⟨_, hF, rfl, [], ?_⟩
    show run cmppCs Try.prog _ [.agg [.w64 a, .w64 b, .int .i64 n], .agg [.w64 c, .w64 d, .int .i64 m]] [] _ _
    rw [cmpp_run]
    exact ⟨_, _, rfl, rfl⟩
  · exact hF.elim

def ofB (w : Int) (a b : BitVec 64) : Bool := (w == 32 || w == 128) && (a &&& mkW w == a && b &&& mkW (w - 64) == b)

def ofF : List Arg → (Res → Prop) → Prop
  | [.v (.int .i64 w), .v (.agg [.w64 a, .w64 b])], R => R (.v (.bool (ofB w a b)))
  | _, _ => False

theorem ofCs_ok : ∀ e ∈ ofCs, SpecOK Try.prog e.1 e.2 := by
  intro e he
  simp only [ofCs, List.mem_cons, List.not_mem_nil, or_false] at he
  rcases he with rfl
  exact cut_ok

end Go.Proofs.Ytffcpblbdfjagaa.L1
