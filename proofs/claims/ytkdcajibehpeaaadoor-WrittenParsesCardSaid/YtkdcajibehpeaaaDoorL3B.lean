/-
  Layer 3: contracts of the program's bitsAt and withBitsAt.
-/
import Derived.Test.YtkdcajibehpeaaaDoorL3G
import Derived.Test.YtkdcajibehpeaaaDoorL3P
namespace Go.Proofs.YtkdcajibehpeaaaDoor.L1
open Go.Sx Go.Sx.M Go.RowKit

def baF : List Arg → (Res → Prop) → Prop
  | [.v (.agg [.w64 a, .w64 b]), .v (.int .i64 o), .v (.int .i64 n)], R => 0 ≤ o ∧ 0 ≤ n ∧ n ≤ 16 ∧ o + n ≤ 128 ∧ R (.v (.int .i64 (partV (fun i => bitAt a b (o.toNat + i)) n.toNat : Nat)))
  | _, _ => False

def baSt (a b : BitVec 64) (o n : Int) (k : Nat) : St :=
  ⟨[.any, .int .i64 o, .any, .ptr 0 0 0 true, .any, .any, .any, .int .i64 (partV (fun i => bitAt a b (o.toNat + i)) k : Nat), .any, .int .i64 n, .int .i64 k, .any, .any, .any, .any, .any, .any, .any, .any, .any, .any, .any, .any, .any], [some ⟨true, 24, 2, true, [.agg [.w64 a, .w64 b]]⟩]⟩
def baM0 : Modes := ⟨[0, 1, 0, 1, 0, 0, 0, 2, 0, 1, 2, 0, 0, 0, 0, 0, 0, 0, 0, 0, 0, 0, 0, 0], [0], [1], [], []⟩
def baM : Modes := ⟨[0, 1, 0, 1, 0, 0, 0, 1, 0, 1, 1, 0, 0, 0, 0, 0, 0, 0, 0, 0, 0, 0, 0, 0], [0], [1], [], []⟩
def baI (n : Int) (k : Nat) : Prop := (k : Int) ≤ n
def baH (a b : BitVec 64) (o n : Int) : List Hint := [.linv _ 0 (baSt a b o n) (baI n) (fun k => 100 - k) baM0 baM baM (fun _ => []) fun _ =>
  [.fork [.nw, .nw, .fork [.nw] [.nw]] []]]

noncomputable def baCs : List (FuncId × Sx.Spec) := [(43, genSpec [none, none] bitF)]

def wbF : List Arg → (Res → Prop) → Prop
  | [.v (.agg [.w64 a, .w64 b]), .v (.int .i64 o), .v (.int .i64 n), .v (.int .i64 v)], R => 0 ≤ o ∧ 0 ≤ n ∧ n ≤ 16 ∧ o + n ≤ 128 ∧ 0 ≤ v ∧ v < 65536 ∧
      R (.v (.agg [.w64 (wbX a b o.toNat n.toNat v.toNat n.toNat), .w64 (wbY a b o.toNat n.toNat v.toNat n.toNat)]))
  | _, _ => False

def wbSt (a b : BitVec 64) (o n v : Int) (k : Nat) : St :=
  ⟨[.any, .int .i64 o, .int .i64 n, .int .i64 v, .ptr 0 0 0 true, .any, .any, .any, .ptr 1 0 0 true, .any, .int .i64 n, .int .i64 k, .any, .any, .any, .any, .any, .any, .any, .any, .any, .any, .any, .any, .any, .any, .any, .any, .any],
   [some ⟨true, 24, 2, true, [.agg [.w64 (wbX a b o.toNat n.toNat v.toNat k), .w64 (wbY a b o.toNat n.toNat v.toNat k)]]⟩, some ⟨true, 24, 2, true, [.agg [.lit (.int .u64 0), .lit (.int .u64 0)]]⟩]⟩
def wbM0 : Modes := ⟨[0, 1, 1, 1, 1, 0, 0, 0, 1, 0, 1, 2, 0, 0, 0, 0, 0, 0, 0, 0, 0, 0, 0, 0, 0, 0, 0, 0, 0], [0, 1], [1, 1], [], []⟩
def wbM : Modes := ⟨[0, 1, 1, 1, 1, 0, 0, 0, 1, 0, 1, 1, 0, 0, 0, 0, 0, 0, 0, 0, 0, 0, 0, 0, 0, 0, 0, 0, 0], [0, 1], [1, 1], [], []⟩
def wbI (n : Int) (k : Nat) : Prop := (k : Int) ≤ n
def wbH (a b : BitVec 64) (o n v : Int) : List Hint := [.linv _ 0 (wbSt a b o n v) (wbI n) (fun k => 100 - k) wbM0 wbM wbM (fun _ => []) fun _ =>
  [.fork [.nw, .nw, .nw, .nw] []]]

noncomputable def wbCs : List (FuncId × Sx.Spec) := [(59, genSpec [none, none, none] withF)]

theorem ba_run (a b : BitVec 64) (o n : Int) (r : AV) : run baCs Tryd.prog 27 [.agg [.w64 a, .w64 b], .int .i64 o, .int .i64 n] [] (baH a b o n) (yields (.v r)) =
    ((Go.Sx.St.mk [Go.Sx.AV.any, Go.Sx.AV.int Go.IntKind.i64 o, Go.Sx.AV.any, Go.Sx.AV.ptr (0 : Nat) (0 : Nat) (0 : Nat) Bool.true, Go.Sx.AV.any, Go.Sx.AV.any, Go.Sx.AV.any, Go.Sx.AV.int Go.IntKind.i64 (0 : Int), Go.Sx.AV.any, Go.Sx.AV.int Go.IntKind.i64 n, Go.Sx.AV.int Go.IntKind.i64 (0 : Int), Go.Sx.AV.any, Go.Sx.AV.any, Go.Sx.AV.any, Go.Sx.AV.any, Go.Sx.AV.any, Go.Sx.AV.any, Go.Sx.AV.any, Go.Sx.AV.any, Go.Sx.AV.any, Go.Sx.AV.any, Go.Sx.AV.any, Go.Sx.AV.any, Go.Sx.AV.any] [Option.some (Go.Sx.Blk.mk Bool.true (24 : Nat) (2 : Nat) Bool.true [Go.Sx.AV.agg [Go.Sx.AV.w64 a, Go.Sx.AV.w64 b]])] = Go.Proofs.YtkdcajibehpeaaaDoor.L1.baSt a b o n (0 : Nat) ∧ Go.Proofs.YtkdcajibehpeaaaDoor.L1.baI n (0 : Nat)) ∧ ∀ (p : Nat), Go.Proofs.YtkdcajibehpeaaaDoor.L1.baI n p → (Decidable.decide ((↑p : Int) < n) = Bool.true → Go.Sx.inRange Go.IntKind.i64 ((↑(Go.Sx.M.partV (fun (i : Nat) => Go.Sx.M.bitAt a b (Int.toNat o + i)) p) : Int) * (2 : Int) ^ Min.min (Int.toNat (1 : Int)) (64 : Nat)) ∧ Go.Sx.inRange Go.IntKind.i64 (o + (↑p : Int)) ∧ (Go.Sx.M.bitZ a b (o + (↑p : Int)) = Bool.true → Go.Sx.inRange Go.IntKind.i64 ((↑p : Int) + (1 : Int)) ∧ ∃ (p' : Nat), Go.Sx.St.mk [Go.Sx.AV.any, Go.Sx.AV.int Go.IntKind.i64 o, Go.Sx.AV.any, Go.Sx.AV.ptr (0 : Nat) (0 : Nat) (0 : Nat) Bool.true, Go.Sx.AV.any, Go.Sx.AV.any, Go.Sx.AV.any, Go.Sx.AV.int Go.IntKind.i64 (Go.IntKind.wrap Go.IntKind.i64 (↑(BitVec.toNat (BitVec.ofInt (64 : Nat) ((↑(Go.Sx.M.partV (fun (i : Nat) => Go.Sx.M.bitAt a b (Int.toNat o + i)) p) : Int) * (2 : Int) ^ Min.min (Int.toNat (1 : Int)) (64 : Nat)) ||| BitVec.ofInt (64 : Nat) (1 : Int))) : Int)), Go.Sx.AV.any, Go.Sx.AV.int Go.IntKind.i64 n, Go.Sx.AV.int Go.IntKind.i64 ((↑p : Int) + (1 : Int)), Go.Sx.AV.any, Go.Sx.AV.any, Go.Sx.AV.any, Go.Sx.AV.any, Go.Sx.AV.any, Go.Sx.AV.any, Go.Sx.AV.any, Go.Sx.AV.any, Go.Sx.AV.any, Go.Sx.AV.any, Go.Sx.AV.any, Go.Sx.AV.any, Go.Sx.AV.any] [Option.some (Go.Sx.Blk.mk Bool.true (24 : Go.TypeId) (2 : Nat) Bool.true [Go.Sx.AV.agg [Go.Sx.AV.w64 a, Go.Sx.AV.w64 b]])] = Go.Proofs.YtkdcajibehpeaaaDoor.L1.baSt a b o n p' ∧ Go.Proofs.YtkdcajibehpeaaaDoor.L1.baI n p' ∧ (100 : Nat) - p' < (100 : Nat) - p) ∧ (Go.Sx.M.bitZ a b (o + (↑p : Int)) = Bool.false → Go.Sx.inRange Go.IntKind.i64 ((↑p : Int) + (1 : Int)) ∧ ∃ (p' : Nat), Go.Sx.St.mk [Go.Sx.AV.any, Go.Sx.AV.int Go.IntKind.i64 o, Go.Sx.AV.any, Go.Sx.AV.ptr (0 : Nat) (0 : Nat) (0 : Nat) Bool.true, Go.Sx.AV.any, Go.Sx.AV.any, Go.Sx.AV.any, Go.Sx.AV.int Go.IntKind.i64 ((↑(Go.Sx.M.partV (fun (i : Nat) => Go.Sx.M.bitAt a b (Int.toNat o + i)) p) : Int) * (2 : Int) ^ Min.min (Int.toNat (1 : Int)) (64 : Nat)), Go.Sx.AV.any, Go.Sx.AV.int Go.IntKind.i64 n, Go.Sx.AV.int Go.IntKind.i64 ((↑p : Int) + (1 : Int)), Go.Sx.AV.any, Go.Sx.AV.any, Go.Sx.AV.any, Go.Sx.AV.any, Go.Sx.AV.any, Go.Sx.AV.any, Go.Sx.AV.any, Go.Sx.AV.any, Go.Sx.AV.any, Go.Sx.AV.any, Go.Sx.AV.any, Go.Sx.AV.any, Go.Sx.AV.any] [Option.some (Go.Sx.Blk.mk Bool.true (24 : Go.TypeId) (2 : Nat) Bool.true [Go.Sx.AV.agg [Go.Sx.AV.w64 a, Go.Sx.AV.w64 b]])] = Go.Proofs.YtkdcajibehpeaaaDoor.L1.baSt a b o n p' ∧ Go.Proofs.YtkdcajibehpeaaaDoor.L1.baI n p' ∧ (100 : Nat) - p' < (100 : Nat) - p)) ∧ (Decidable.decide ((↑p : Int) < n) = Bool.false → Go.Sx.AV.int Go.IntKind.i64 (↑(Go.Sx.M.partV (fun (i : Nat) => Go.Sx.M.bitAt a b (Int.toNat o + i)) p) : Int) = r)) := by kernel_rfl

theorem wb_run (a b : BitVec 64) (o n v : Int) (r : AV) : run wbCs Tryd.prog 47 [.agg [.w64 a, .w64 b], .int .i64 o, .int .i64 n, .int .i64 v] [] (wbH a b o n v) (yields (.v r)) =
    ((Go.Sx.St.mk [Go.Sx.AV.any, Go.Sx.AV.int Go.IntKind.i64 o, Go.Sx.AV.int Go.IntKind.i64 n, Go.Sx.AV.int Go.IntKind.i64 v, Go.Sx.AV.ptr (0 : Nat) (0 : Nat) (0 : Nat) Bool.true, Go.Sx.AV.any, Go.Sx.AV.any, Go.Sx.AV.any, Go.Sx.AV.ptr ((0 : Nat) + (1 : Nat)) (0 : Nat) (0 : Nat) Bool.true, Go.Sx.AV.any, Go.Sx.AV.int Go.IntKind.i64 n, Go.Sx.AV.int Go.IntKind.i64 (0 : Int), Go.Sx.AV.any, Go.Sx.AV.any, Go.Sx.AV.any, Go.Sx.AV.any, Go.Sx.AV.any, Go.Sx.AV.any, Go.Sx.AV.any, Go.Sx.AV.any, Go.Sx.AV.any, Go.Sx.AV.any, Go.Sx.AV.any, Go.Sx.AV.any, Go.Sx.AV.any, Go.Sx.AV.any, Go.Sx.AV.any, Go.Sx.AV.any, Go.Sx.AV.any] [Option.some (Go.Sx.Blk.mk Bool.true (24 : Nat) (2 : Nat) Bool.true [Go.Sx.AV.agg [Go.Sx.AV.w64 a, Go.Sx.AV.w64 b]]), Option.some (Go.Sx.Blk.mk Bool.true (24 : Nat) (2 : Nat) Bool.true [Go.Sx.AV.agg [Go.Sx.AV.lit (Go.Value.int Go.IntKind.u64 (0 : Int)), Go.Sx.AV.lit (Go.Value.int Go.IntKind.u64 (0 : Int))]])] = Go.Proofs.YtkdcajibehpeaaaDoor.L1.wbSt a b o n v (0 : Nat) ∧ Go.Proofs.YtkdcajibehpeaaaDoor.L1.wbI n (0 : Nat)) ∧ ∀ (p : Nat), Go.Proofs.YtkdcajibehpeaaaDoor.L1.wbI n p → (Decidable.decide ((↑p : Int) < n) = Bool.true → Go.Sx.inRange Go.IntKind.i64 (o + (↑p : Int)) ∧ Go.Sx.inRange Go.IntKind.i64 (n - (1 : Int)) ∧ Go.Sx.inRange Go.IntKind.i64 (n - (1 : Int) - (↑p : Int)) ∧ (0 : Int) ≤ n - (1 : Int) - (↑p : Int) ∧ Go.Sx.inRange Go.IntKind.i64 ((↑p : Int) + (1 : Int)) ∧ ∃ (p' : Nat), Go.Sx.St.mk [Go.Sx.AV.any, Go.Sx.AV.int Go.IntKind.i64 o, Go.Sx.AV.int Go.IntKind.i64 n, Go.Sx.AV.int Go.IntKind.i64 v, Go.Sx.AV.ptr (0 : Nat) (0 : Nat) (0 : Nat) Bool.true, Go.Sx.AV.any, Go.Sx.AV.any, Go.Sx.AV.any, Go.Sx.AV.ptr ((0 : Nat) + (1 : Nat)) (0 : Nat) (0 : Nat) Bool.true, Go.Sx.AV.any, Go.Sx.AV.int Go.IntKind.i64 n, Go.Sx.AV.int Go.IntKind.i64 ((↑p : Int) + (1 : Int)), Go.Sx.AV.any, Go.Sx.AV.any, Go.Sx.AV.any, Go.Sx.AV.any, Go.Sx.AV.any, Go.Sx.AV.any, Go.Sx.AV.any, Go.Sx.AV.any, Go.Sx.AV.any, Go.Sx.AV.any, Go.Sx.AV.any, Go.Sx.AV.any, Go.Sx.AV.any, Go.Sx.AV.any, Go.Sx.AV.any, Go.Sx.AV.any, Go.Sx.AV.any] [Option.some (Go.Sx.Blk.write (Go.Sx.Blk.mk Bool.true (24 : Go.TypeId) (2 : Nat) Bool.true [Go.Sx.AV.agg [Go.Sx.AV.w64 (Go.Sx.M.wbX a b (Int.toNat o) (Int.toNat n) (Int.toNat v) p), Go.Sx.AV.w64 (Go.Sx.M.wbY a b (Int.toNat o) (Int.toNat n) (Int.toNat v) p)]]) (0 : Nat) (0 : Nat) (Go.Sx.AV.agg [Go.Sx.AV.w64 (Go.Sx.M.put (Go.Sx.M.wbX a b (Int.toNat o) (Int.toNat n) (Int.toNat v) p) (o + (↑p : Int)) (Go.IntKind.wrap Go.IntKind.i64 (↑(BitVec.toNat (BitVec.ofInt (64 : Nat) (Int.fdiv v ((2 : Int) ^ Min.min (Int.toNat (n - (1 : Int) - (↑p : Int))) (64 : Nat))) &&& BitVec.ofInt (64 : Nat) (1 : Int))) : Int) == (1 : Int))), Go.Sx.AV.w64 (Go.Sx.M.put (Go.Sx.M.wbY a b (Int.toNat o) (Int.toNat n) (Int.toNat v) p) (o + (↑p : Int) - (64 : Int)) (Go.IntKind.wrap Go.IntKind.i64 (↑(BitVec.toNat (BitVec.ofInt (64 : Nat) (Int.fdiv v ((2 : Int) ^ Min.min (Int.toNat (n - (1 : Int) - (↑p : Int))) (64 : Nat))) &&& BitVec.ofInt (64 : Nat) (1 : Int))) : Int) == (1 : Int)))])), Option.some (Go.Sx.Blk.mk Bool.true (24 : Go.TypeId) (2 : Nat) Bool.true [Go.Sx.AV.agg [Go.Sx.AV.lit (Go.Value.int Go.IntKind.u64 (0 : Int)), Go.Sx.AV.lit (Go.Value.int Go.IntKind.u64 (0 : Int))]])] = Go.Proofs.YtkdcajibehpeaaaDoor.L1.wbSt a b o n v p' ∧ Go.Proofs.YtkdcajibehpeaaaDoor.L1.wbI n p' ∧ (100 : Nat) - p' < (100 : Nat) - p) ∧ (Decidable.decide ((↑p : Int) < n) = Bool.false → Go.Sx.AV.agg [Go.Sx.AV.w64 (Go.Sx.M.wbX a b (Int.toNat o) (Int.toNat n) (Int.toNat v) p), Go.Sx.AV.w64 (Go.Sx.M.wbY a b (Int.toNat o) (Int.toNat n) (Int.toNat v) p)] = r)) := by kernel_rfl

theorem wrap_small {n : Nat} (h : n < 9223372036854775808) : IntKind.i64.wrap (n : Int) = n := by
  unfold IntKind.wrap
  simp [IntKind.bits, IntKind.signed]
  omega

theorem or_one {m : Nat} (h : m < 4611686018427387904) : IntKind.i64.wrap ((BitVec.toNat (BitVec.ofInt 64 ((m : Int) * 2 ^ min (Int.toNat 1) 64) ||| BitVec.ofInt 64 1) : Nat) : Int) = ((2 * m + 1 : Nat) : Int) := by
  have e : (BitVec.ofInt 64 ((m : Int) * 2 ^ min (Int.toNat 1) 64) ||| BitVec.ofInt 64 1).toNat = 2 * m + 1 := by
    have e0 : (m : Int) * (2 : Int) ^ min (Int.toNat 1) 64 = ((m <<< 1 : Nat) : Int) := by rw [Nat.shiftLeft_eq]; simp
    rw [BitVec.toNat_or, show (BitVec.ofInt 64 1).toNat = 1 from rfl, e0, BitVec.toNat_ofInt, show (((m <<< 1 : Nat) : Int) % ((2 ^ 64 : Nat) : Int)).toNat = m <<< 1 from by rw [Nat.shiftLeft_eq]; omega,
      ← Nat.shiftLeft_add_eq_or_of_lt (by omega), Nat.shiftLeft_eq]
    omega
  rw [e, wrap_small (by omega)]

theorem dbl {m : Nat} : (m : Int) * 2 ^ min (Int.toNat 1) 64 = ((2 * m : Nat) : Int) := by simp; omega

theorem baCs_ok : ∀ e ∈ baCs, SpecOK Tryd.prog e.1 e.2 := by
  intro e he
  simp only [baCs, List.mem_cons, List.not_mem_nil, or_false] at he
  rcases he with rfl
  exact bit_ok

theorem ba_ok : SpecOK Tryd.prog 27 (genSpec [none, none, none] baF) := by
  refine genSpec_ok (run_ok (l := baCs) baCs_ok mixed noNG) fun args R hF => ?_
  unfold baF at hF
  split at hF
  · rename_i a b o n
    obtain ⟨h0, h1, h2, h3, hR⟩ := hF
    refine ⟨_, hR, rfl, baH a b o n, ?_⟩
    show run baCs Tryd.prog _ [.agg [.w64 a, .w64 b], .int .i64 o, .int .i64 n] [] _ _
    rw [ba_run]
    refine ⟨⟨rfl, h1⟩, fun k hk => ⟨fun hlt => ?_, fun hge => ?_⟩⟩
    · unfold baI at hk
      have hk' : (k : Int) < n := by simpa using hlt
      have hp := partV_lt (fun i => bitAt a b (o.toNat + i)) k
      have hp2 : (2 : Nat) ^ k ≤ 2 ^ 16 := Nat.pow_le_pow_right (by omega) (by omega)
      have hb : bitZ a b (o + k) = bitAt a b (o.toNat + k) := by
        unfold bitZ
        rw [decide_eq_true (by omega), Bool.true_and]
        congr 1; omega
      rw [hb, dbl]
      refine ⟨inR (by omega) (by omega), inR (by omega) (by omega), fun hbit => ⟨inR (by omega) (by omega), k + 1, ?_, by unfold baI; omega, by omega⟩, fun hbit => ⟨inR (by omega) (by omega), k + 1, ?_, by unfold baI; omega, by omega⟩⟩
      · unfold baSt
        rw [← dbl, or_one (by omega), partV, hbit]; rfl
      · unfold baSt
        rw [partV, hbit]; rfl
    · unfold baI at hk
      have hk' : ¬ (k : Int) < n := by simpa using hge
      rw [show n.toNat = k from by omega]
  · exact hF.elim

theorem and_sh {v j : Nat} (hv : v < 65536) : (IntKind.i64.wrap ((BitVec.toNat (BitVec.ofInt 64 (Int.fdiv (v : Int) (2 ^ min j 64)) &&& BitVec.ofInt 64 1) : Nat) : Int) == 1) = v.testBit j := by
  have e1 : Int.fdiv (v : Int) (2 ^ min j 64) = ((v / 2 ^ min j 64 : Nat) : Int) := by
    rw [Int.fdiv_eq_ediv_of_nonneg _ (Int.le_of_lt (Int.pow_pos (by omega)))]
    simp
  have e2 : v / 2 ^ min j 64 = v / 2 ^ j := by
    by_cases h : j ≤ 64
    · rw [Nat.min_eq_left h]
    · rw [Nat.min_eq_right (by omega), Nat.div_eq_of_lt (by omega), Nat.div_eq_of_lt (Nat.lt_of_lt_of_le (show v < 2 ^ 16 by omega) (Nat.pow_le_pow_right (by omega) (by omega)))]
  have e3 : v / 2 ^ j ≤ v := Nat.div_le_self _ _
  have e4 : (BitVec.ofInt 64 ((v / 2 ^ j : Nat) : Int) &&& BitVec.ofInt 64 1).toNat = v / 2 ^ j % 2 := by
    rw [BitVec.toNat_and, show (BitVec.ofInt 64 1).toNat = 2 ^ 1 - 1 from rfl, Nat.and_two_pow_sub_one_eq_mod, BitVec.toNat_ofInt]
    congr 1
    generalize v / 2 ^ j = q at e3
    omega
  rw [e1, e2, e4, wrap_small (by omega), Nat.testBit_eq_decide_div_mod_eq, Bool.eq_iff_iff, beq_iff_eq, decide_eq_true_eq]
  omega

theorem wb_zero (a b : BitVec 64) (o n v : Nat) : wbX a b o n v 0 = a ∧ wbY a b o n v 0 = b :=
  bitAt_eq fun i hi => by
    rw [wb_bit _ _ _ _ _ _ hi, wbB, if_neg (by omega)]

theorem wb_put (a b : BitVec 64) (o n v k : Nat) (_ : k < n) (_ : o + n ≤ 128) :
    put (wbX a b o n v k) (o + k : Nat) (v.testBit (n - 1 - k)) = wbX a b o n v (k + 1) ∧ put (wbY a b o n v k) ((o + k : Nat) - 64 : Int) (v.testBit (n - 1 - k)) = wbY a b o n v (k + 1) :=
  bitAt_eq fun i hi => by
    rw [wb_bit _ _ _ _ _ _ hi]
    have h := wb_bit a b o n v k hi
    unfold bitAt at h ⊢
    have hb : wbB a b o n v (k + 1) i = if i = o + k then v.testBit (n - 1 - k) else wbB a b o n v k i := by
      unfold wbB
      by_cases e : i = o + k
      · subst e
        rw [if_pos (by omega), if_pos rfl, show o + k - o = k from by omega]
      · rw [if_neg e]
        by_cases e2 : o ≤ i ∧ i < o + k
        · rw [if_pos (by omega), if_pos e2]
        · rw [if_neg (by omega), if_neg e2]
    rw [hb]
    split
    · rename_i h64
      rw [if_pos h64] at h
      rw [put_get h64, h]
      by_cases e : i = o + k
      · rw [if_pos (by omega), if_pos e]
      · rw [if_neg (by omega), if_neg e]
    · rename_i h64
      rw [if_neg h64] at h
      rw [put_get (by omega), h]
      by_cases e : i = o + k
      · rw [if_pos (by omega), if_pos e]
      · rw [if_neg (by omega), if_neg e]

theorem wbCs_ok : ∀ e ∈ wbCs, SpecOK Tryd.prog e.1 e.2 := by
  intro e he
  simp only [wbCs, List.mem_cons, List.not_mem_nil, or_false] at he
  rcases he with rfl
  exact with_ok

theorem wb_ok : SpecOK Tryd.prog 47 (genSpec [none, none, none, none] wbF) := by
  refine genSpec_ok (run_ok (l := wbCs) wbCs_ok mixed noNG) fun args R hF => ?_
  unfold wbF at hF
  split at hF
  · rename_i a b o n v
    obtain ⟨h0, h1, h2, h3, h4, h5, hR⟩ := hF
    refine ⟨_, hR, rfl, wbH a b o n v, ?_⟩
    show run wbCs Tryd.prog _ [.agg [.w64 a, .w64 b], .int .i64 o, .int .i64 n, .int .i64 v] [] _ _
    rw [wb_run]
    obtain ⟨z1, z2⟩ := wb_zero a b o.toNat n.toNat v.toNat
    refine ⟨⟨by unfold wbSt; rw [z1, z2]; rfl, h1⟩, fun k hk => ⟨fun hlt => ?_, fun hge => ?_⟩⟩
    · unfold wbI at hk
      have hk' : (k : Int) < n := by simpa using hlt
      refine ⟨inR (by omega) (by omega), inR (by omega) (by omega), inR (by omega) (by omega), by omega, inR (by omega) (by omega), k + 1, ?_, by unfold wbI; omega, by omega⟩
      obtain ⟨e1, e2⟩ := wb_put a b o.toNat n.toNat v.toNat k (by omega) (by omega)
      have e3 := and_sh (v := v.toNat) (j := n.toNat - 1 - k) (by omega)
      rw [show ((v.toNat : Nat) : Int) = v from by omega, show n.toNat - 1 - k = (n - 1 - (k : Int)).toNat from by omega] at e3
      rw [show n.toNat - 1 - k = (n - 1 - (k : Int)).toNat from by omega] at e1 e2
      rw [show ((o.toNat + k : Nat) : Int) = o + k from by omega] at e1 e2
      unfold wbSt
      rw [e3, e1, e2]
      rfl
    · unfold wbI at hk
      have hk' : ¬ (k : Int) < n := by simpa using hge
      have e : n.toNat = k := by omega
      rw [e]
  · exact hF.elim

end Go.Proofs.YtkdcajibehpeaaaDoor.L1
