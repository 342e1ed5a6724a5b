/-
  Layer 16: the law SplitAll.
-/
import Derived.Test.YthfgocpejlhanaaL16G
namespace Go.Proofs.Ythfgocpejlhanaa.L1
open Go.Sx Go.Sx.M

def sa16St (k : Int) (l : List En) (n : Nat) : St :=
  ⟨[.int .i64 k, .vsl 0 0 (l.map enE).length, .any, .any, .any, .int .i64 (smP k l n), .any, .any, .any, .any, .any, .any, .any, .any, .any, .any, .any, .any, .any, .any, .int .i64 (mnI k), .int .i64 n, .any, .any, .any, .any, .any, .any, .any, .any, .any, .any, .any, .any, .any, .any, .any, .any, .any, .any, .any, .any, .any, .any, .any, .any, .any, .any, .any, .any, .any, .any, .any, .any, .any, .any, .any, .any, .any, .any, .any, .any, .any, .any, .any, .any, .any, .any, .any, .any, .any], [lEn l]⟩
def sa16M0 : Modes := ⟨[1, 1, 0, 0, 0, 2, 0, 0, 0, 0, 0, 0, 0, 0, 0, 0, 0, 0, 0, 0, 1, 2, 0, 0, 0, 0, 0, 0, 0, 0, 0, 0, 0, 0, 0, 0, 0, 0, 0, 0, 0, 0, 0, 0, 0, 0, 0, 0, 0, 0, 0, 0, 0, 0, 0, 0, 0, 0, 0, 0, 0, 0, 0, 0, 0, 0, 0, 0, 0, 0, 0], [], [], [], []⟩
def sa16M : Modes := ⟨[1, 1, 0, 0, 0, 1, 0, 0, 0, 0, 0, 0, 0, 0, 0, 0, 0, 0, 0, 0, 1, 1, 0, 0, 0, 0, 0, 0, 0, 0, 0, 0, 0, 0, 0, 0, 0, 0, 0, 0, 0, 0, 0, 0, 0, 0, 0, 0, 0, 0, 0, 0, 0, 0, 0, 0, 0, 0, 0, 0, 0, 0, 0, 0, 0, 0, 0, 0, 0, 0, 0], [], [], [], []⟩
def sa16M' : Modes := ⟨[1, 1, 0, 0, 0, 1, 0, 0, 0, 0, 0, 0, 0, 0, 0, 0, 0, 0, 0, 0, 0, 0, 0, 0, 0, 0, 0, 0, 0, 0, 0, 0, 0, 0, 0, 0, 0, 0, 0, 0, 0, 0, 0, 0, 0, 0, 0, 0, 0, 0, 0, 0, 0, 0, 0, 0, 0, 0, 0, 0, 0, 0, 0, 0, 0, 0, 0, 0, 0, 0, 0], [], [], [], []⟩
def sc16St (k : Int) (l : List En) (n i : Nat) : St :=
  ⟨[.int .i64 k, .vsl 0 0 (l.map enE).length, .any, .any, .any, .int .i64 (smP k l n), .any, .int .i64 i, .any, .any, .any, .any, .any, .any, .any, .any, .any, .any, .any, .any, .any, .any, .any, .any, .any, .any, .any, .any, .any, .any, .any, .any, .vsl 0 0 (l.map enE).length, .int .i64 (l.map enE).length, .int .i64 i, .any, .any, .any, .any, .any, .any, .any, .any, .any, .any, .any, .any, .any, .any, .any, .any, .any, .any, .any, .any, .any, .any, .any, .any, .any, .any, .any, .any, .any, .any, .any, .any, .any, .any, .any, .any], [lEn l]⟩
def sc16M0 : Modes := ⟨[1, 1, 0, 0, 0, 1, 0, 2, 0, 0, 0, 0, 0, 0, 0, 0, 0, 0, 0, 0, 0, 0, 0, 0, 0, 0, 0, 0, 0, 0, 0, 0, 1, 1, 2, 0, 0, 0, 0, 0, 0, 0, 0, 0, 0, 0, 0, 0, 0, 0, 0, 0, 0, 0, 0, 0, 0, 0, 0, 0, 0, 0, 0, 0, 0, 0, 0, 0, 0, 0, 0], [], [], [], []⟩
def sc16M : Modes := ⟨[1, 1, 0, 0, 0, 1, 0, 1, 0, 0, 0, 0, 0, 0, 0, 0, 0, 0, 0, 0, 0, 0, 0, 0, 0, 0, 0, 0, 0, 0, 0, 0, 1, 1, 1, 0, 0, 0, 0, 0, 0, 0, 0, 0, 0, 0, 0, 0, 0, 0, 0, 0, 0, 0, 0, 0, 0, 0, 0, 0, 0, 0, 0, 0, 0, 0, 0, 0, 0, 0, 0], [], [], [], []⟩
def sc16M' : Modes := ⟨[1, 1, 0, 0, 0, 1, 0, 1, 0, 0, 0, 0, 0, 0, 0, 0, 0, 0, 0, 0, 0, 0, 0, 0, 0, 0, 0, 0, 0, 0, 0, 0, 0, 0, 0, 0, 0, 0, 0, 0, 0, 0, 0, 0, 0, 0, 0, 0, 0, 0, 0, 0, 0, 0, 0, 0, 0, 0, 0, 0, 0, 0, 0, 0, 0, 0, 0, 0, 0, 0, 0], [], [], [], []⟩
def sc16H (k : Int) (l : List En) (n : Nat) : List Hint := [.linv _ 0 (sc16St k l n) (fun i => i ≤ l.length) (fun i => l.length + 1 - i) sc16M0 sc16M sc16M' (fun _ => [.nw, .br true, .br true, .nm (pA16 0 0 l), .br true]) fun i =>
  [.fork [.dy, .cell (enE (at' l i)), .nm (bq16R k (at' l i)), .br true, .nw, .nw] []]]
def sa16H (k : Int) (l : List En) : List Hint := [.fork [] [.fork [] [.linv _ 0 (sa16St k l) (fun n => n ≤ (mnI k).toNat) (fun n => (mnI k).toNat + 1 - n) sa16M0 sa16M sa16M' (fun n => sc16H k l n) fun n =>
  [.fork [.nm (pA16 k n l), .nw, .nw] []]]]]

theorem splitAll16_run (k : Int) (l : List En) : run l16Cs Try.prog 7 [.int .i64 k, .vsl 0 0 (l.map enE).length] [lEn l] (sa16H k l) isTrue =
    ((Decidable.decide ((↑(List.length (List.map enE l)) : Int) > (30 : Int)) = true → True ∧ true = true) ∧ (Decidable.decide ((↑(List.length (List.map enE l)) : Int) > (30 : Int)) = false → ((!rtI k) = true → True ∧ true = true) ∧ ((!rtI k) = false → (St.mk [AV.int IntKind.i64 k, AV.vsl (0 : Nat) (0 : Nat) (List.length (List.map enE l)), AV.any, AV.any, AV.any, AV.int IntKind.i64 (0 : Int), AV.any, AV.any, AV.any, AV.any, AV.any, AV.any, AV.any, AV.any, AV.any, AV.any, AV.any, AV.any, AV.any, AV.any, AV.int IntKind.i64 (mnI k), AV.int IntKind.i64 (0 : Int), AV.any, AV.any, AV.any, AV.any, AV.any, AV.any, AV.any, AV.any, AV.any, AV.any, AV.any, AV.any, AV.any, AV.any, AV.any, AV.any, AV.any, AV.any, AV.any, AV.any, AV.any, AV.any, AV.any, AV.any, AV.any, AV.any, AV.any, AV.any, AV.any, AV.any, AV.any, AV.any, AV.any, AV.any, AV.any, AV.any, AV.any, AV.any, AV.any, AV.any, AV.any, AV.any, AV.any, AV.any, AV.any, AV.any, AV.any, AV.any, AV.any] [some (Blk.mk false (48 : TypeId) (6 : Nat) true (List.map enE l))] = sa16St k l (0 : Nat) ∧ Nat.le (0 : Nat) (Int.toNat (mnI k))) ∧ ∀ (p : Nat), Nat.le p (Int.toNat (mnI k)) → (Decidable.decide ((↑p : Int) < mnI k) = true → (0 : Nat) + List.length (List.map enE l) ≤ List.length (List.map enE l) ∧ List.take (List.length (List.map enE l)) (List.drop (0 : Nat) (List.map enE l)) = List.map enE (deE (List.take (List.length (List.map enE l)) (List.drop (0 : Nat) (List.map enE l)))) ∧ List.length (deE (List.take (List.length (List.map enE l)) (List.drop (0 : Nat) (List.map enE l)))) ≤ (1000000 : Nat) ∧ (List.map enE (ptI k (↑p : Int) (deE (List.take (List.length (List.map enE l)) (List.drop (0 : Nat) (List.map enE l))))) = pA16 k (↑p : Int) l ∧ List.length (List.map enE (ptI k (↑p : Int) (deE (List.take (List.length (List.map enE l)) (List.drop (0 : Nat) (List.map enE l)))))) = List.length (pA16 k (↑p : Int) l)) ∧ inRange IntKind.i64 ((↑(smP k l p) : Int) + (↑(List.length (pA16 k (↑p : Int) l)) : Int)) ∧ inRange IntKind.i64 ((↑p : Int) + (1 : Int)) ∧ ∃ (p' : Nat), St.mk [AV.int IntKind.i64 k, AV.vsl (0 : Nat) (0 : Nat) (List.length (List.map enE l)), AV.any, AV.any, AV.any, AV.int IntKind.i64 ((↑(smP k l p) : Int) + (↑(List.length (pA16 k (↑p : Int) l)) : Int)), AV.any, AV.any, AV.any, AV.any, AV.any, AV.any, AV.any, AV.any, AV.any, AV.any, AV.any, AV.any, AV.any, AV.any, AV.int IntKind.i64 (mnI k), AV.int IntKind.i64 ((↑p : Int) + (1 : Int)), AV.any, AV.any, AV.any, AV.any, AV.any, AV.any, AV.any, AV.any, AV.any, AV.any, AV.any, AV.any, AV.any, AV.any, AV.any, AV.any, AV.any, AV.any, AV.any, AV.any, AV.any, AV.any, AV.any, AV.any, AV.any, AV.any, AV.any, AV.any, AV.any, AV.any, AV.any, AV.any, AV.any, AV.any, AV.any, AV.any, AV.any, AV.any, AV.any, AV.any, AV.any, AV.any, AV.any, AV.any, AV.any, AV.any, AV.any, AV.any, AV.any] [some (Blk.mk false (48 : TypeId) (6 : Nat) true (List.map enE l))] = sa16St k l p' ∧ Nat.le p' (Int.toNat (mnI k)) ∧ Int.toNat (mnI k) + (1 : Nat) - p' < Int.toNat (mnI k) + (1 : Nat) - p) ∧ (Decidable.decide ((↑p : Int) < mnI k) = false → (St.mk [AV.int IntKind.i64 k, AV.vsl (0 : Nat) (0 : Nat) (List.length (List.map enE l)), AV.any, AV.any, AV.any, AV.int IntKind.i64 (↑(smP k l p) : Int), AV.any, AV.int IntKind.i64 (0 : Int), AV.any, AV.any, AV.any, AV.any, AV.any, AV.any, AV.any, AV.any, AV.any, AV.any, AV.any, AV.any, AV.any, AV.any, AV.any, AV.any, AV.any, AV.any, AV.any, AV.any, AV.any, AV.any, AV.any, AV.any, AV.vsl (0 : Nat) (0 : Nat) (List.length (List.map enE l)), AV.int IntKind.i64 (↑(List.length (List.map enE l)) : Int), AV.int IntKind.i64 (0 : Int), AV.any, AV.any, AV.any, AV.any, AV.any, AV.any, AV.any, AV.any, AV.any, AV.any, AV.any, AV.any, AV.any, AV.any, AV.any, AV.any, AV.any, AV.any, AV.any, AV.any, AV.any, AV.any, AV.any, AV.any, AV.any, AV.any, AV.any, AV.any, AV.any, AV.any, AV.any, AV.any, AV.any, AV.any, AV.any, AV.any] [some (Blk.mk false (48 : TypeId) (6 : Nat) true (List.map enE l))] = sc16St k l p (0 : Nat) ∧ Nat.le (0 : Nat) (List.length l)) ∧ ∀ (p_1 : Nat), Nat.le p_1 (List.length l) → (Decidable.decide ((↑p_1 : Int) < (↑(List.length (List.map enE l)) : Int)) = true → ((0 : Int) ≤ (↑p_1 : Int) ∧ (↑p_1 : Int) < (↑(List.length (List.map enE l)) : Int)) ∧ Blk.read Proofs.Try.prog (Blk.mk false (48 : TypeId) (6 : Nat) true (List.map enE l)) (48 : Nat) ((0 : Nat) + Int.toNat (↑p_1 : Int)) (0 : Nat) = some (AV.agg [AV.w64 (at' l p_1).1, AV.w64 (at' l p_1).2, AV.w64 (at' l p_1).3, AV.w64 (at' l p_1).4, AV.int IntKind.i64 (at' l p_1).5, AV.int IntKind.i64 (at' l p_1).6]) ∧ (List.map inA (bkI k (at' l p_1).1 (at' l p_1).3) = bq16R k (at' l p_1) ∧ List.length (List.map inA (bkI k (at' l p_1).1 (at' l p_1).3)) = List.length (bq16R k (at' l p_1))) ∧ Decidable.decide ((↑(List.length (bq16R k (at' l p_1))) : Int) > (0 : Int)) = true ∧ inRange IntKind.i64 ((↑p_1 : Int) + (1 : Int)) ∧ inRange IntKind.i64 ((↑p_1 : Int) + (1 : Int)) ∧ ∃ (p' : Nat), St.mk [AV.int IntKind.i64 k, AV.vsl (0 : Nat) (0 : Nat) (List.length (List.map enE l)), AV.any, AV.any, AV.any, AV.int IntKind.i64 (↑(smP k l p) : Int), AV.any, AV.int IntKind.i64 ((↑p_1 : Int) + (1 : Int)), AV.any, AV.any, AV.any, AV.any, AV.any, AV.any, AV.any, AV.any, AV.any, AV.any, AV.any, AV.any, AV.any, AV.any, AV.any, AV.any, AV.any, AV.any, AV.any, AV.any, AV.any, AV.any, AV.any, AV.any, AV.vsl (0 : Nat) (0 : Nat) (List.length (List.map enE l)), AV.int IntKind.i64 (↑(List.length (List.map enE l)) : Int), AV.int IntKind.i64 ((↑p_1 : Int) + (1 : Int)), AV.any, AV.any, AV.any, AV.any, AV.any, AV.any, AV.any, AV.any, AV.any, AV.any, AV.any, AV.any, AV.any, AV.any, AV.any, AV.any, AV.any, AV.any, AV.any, AV.any, AV.any, AV.any, AV.any, AV.any, AV.any, AV.any, AV.any, AV.any, AV.any, AV.any, AV.any, AV.any, AV.any, AV.any, AV.any, AV.any] [some (Blk.mk false (48 : TypeId) (6 : Nat) true (List.map enE l))] = sc16St k l p p' ∧ Nat.le p' (List.length l) ∧ List.length l + (1 : Nat) - p' < List.length l + (1 : Nat) - p_1) ∧ (Decidable.decide ((↑p_1 : Int) < (↑(List.length (List.map enE l)) : Int)) = false → (0 : Nat) + List.length (List.map enE l) ≤ List.length (List.map enE l) ∧ List.take (List.length (List.map enE l)) (List.drop (0 : Nat) (List.map enE l)) = List.map enE (deE (List.take (List.length (List.map enE l)) (List.drop (0 : Nat) (List.map enE l)))) ∧ List.length (deE (List.take (List.length (List.map enE l)) (List.drop (0 : Nat) (List.map enE l)))) ≤ (1000000 : Nat) ∧ inRange IntKind.i64 ((↑p_1 : Int) + cpI k (deE (List.take (List.length (List.map enE l)) (List.drop (0 : Nat) (List.map enE l))))) ∧ ((↑(smP k l p) : Int) == (↑p_1 : Int) + cpI k (deE (List.take (List.length (List.map enE l)) (List.drop (0 : Nat) (List.map enE l))))) = true ∧ ((↑p_1 : Int) == (↑(List.length (List.map enE l)) : Int)) = true ∧ (0 : Nat) + List.length (List.map enE l) ≤ List.length (List.map enE l) ∧ List.take (List.length (List.map enE l)) (List.drop (0 : Nat) (List.map enE l)) = List.map enE (deE (List.take (List.length (List.map enE l)) (List.drop (0 : Nat) (List.map enE l)))) ∧ List.length (deE (List.take (List.length (List.map enE l)) (List.drop (0 : Nat) (List.map enE l)))) ≤ (1000000 : Nat) ∧ (List.map enE (ptI (0 : Int) (0 : Int) (deE (List.take (List.length (List.map enE l)) (List.drop (0 : Nat) (List.map enE l))))) = pA16 (0 : Int) (0 : Int) l ∧ List.length (List.map enE (ptI (0 : Int) (0 : Int) (deE (List.take (List.length (List.map enE l)) (List.drop (0 : Nat) (List.map enE l)))))) = List.length (pA16 (0 : Int) (0 : Int) l)) ∧ ((↑(List.length (pA16 (0 : Int) (0 : Int) l)) : Int) == (↑(List.length (List.map enE l)) : Int)) = true ∧ True ∧ true = true))))) := by kernel_rfl

theorem splitAll16_law (k : Int) (l : List En) : ∃ hs, run l16Cs Try.prog 7 [.int .i64 k, .vsl 0 0 (l.map enE).length] [lEn l] hs isTrue := by
  refine ⟨(sa16H k l), ?_⟩
  rw [splitAll16_run]
  have hml : (l.map enE).length = l.length := List.length_map _
  simp only [List.drop_zero, List.take_length, deE_map, pA_eq, zLe, true_and, and_true]
  refine ⟨fun _ => trivial, fun h30 => ⟨fun _ => trivial, fun hr => ?_⟩⟩
  have h30 := of_decide_eq_false h30
  have hr : rtI k = true := notF hr
  have hmn := mnI_nat hr
  have hm8 := mn_le hr
  have hcb := cpI_bound k l
  have hmt : (mnI k).toNat = 2 ^ k.toNat := by rw [hmn, Int.toNat_natCast]
  refine ⟨⟨rfl, Nat.zero_le _⟩, ?_⟩
  intro p (hp : p ≤ _)
  have hsm := smP_le k l p
  have hsm2 : p * l.length ≤ 8 * 30 := Nat.mul_le_mul (by omega) (by omega)
  refine ⟨fun hlt => ?_, fun hge => ?_⟩
  · have hlt := of_decide_eq_true hlt
    have hpl := pA_len k (p : Int) l
    have hptl := ptI_length k (p : Int) l
    have e : ((smP k l (p + 1) : Nat) : Int) = (smP k l p : Int) + ((pA16 k (p : Int) l).length : Int) := by
      rw [smP_succ, pA_len]
      rfl
    refine ⟨by omega, inR (by omega) (by omega), inR (by omega) (by omega), p + 1, ?_, by show p + 1 ≤ _; omega, by omega⟩
    unfold sa16St
    rw [e]
    rfl
  have hge := of_decide_eq_false hge
  have ep : p = 2 ^ k.toNat := by omega
  refine ⟨⟨rfl, Nat.zero_le _⟩, ?_⟩
  intro i (hi : i ≤ _)
  refine ⟨fun hlt => ?_, fun hge => ?_⟩
  · have hlt := of_decide_eq_true hlt
    have hil : i < l.length := by omega
    have B : 0 ≤ (i : Int) ∧ (i : Int) < ((l.map enE).length : Int) := by omega
    have hq := bq_len k (at' l i)
    have hpos := List.length_pos_of_mem (bkI_pos hr (at' l i).v (at' l i).m)
    exact ⟨B, read_rows B.1 B.2 (en_whole _), ⟨rfl, rfl⟩, decide_eq_true (by omega), inR (by omega) (by omega), inR (by omega) (by omega), i + 1, rfl, hil, by omega⟩
  · have hge := of_decide_eq_false hge
    have ei : i = l.length := by omega
    have hs := sm_all hr l
    have hz : (pA16 0 0 l).length = l.length := by rw [pA_len, pt_zero]
    rw [ep] at hsm
    refine ⟨by omega, inR (by omega) (by omega), ?_, ?_, by omega, ?_⟩
    · rw [ep, hs, ei]
      simp
    · rw [ei, hml]
      simp
    · rw [hz, hml]
      simp

end Go.Proofs.Ythfgocpejlhanaa.L1
