/-
  Layer 3: contracts of what it calls of the layers below: which prefixes, and addresses, may be.
-/
import Derived.Test.YtkdcajibehpeaaaDoorL1Mask
import Derived.Test.YtkdcajibehpeaaaDoorL1Bit
namespace Go.Proofs.YtkdcajibehpeaaaDoor.L1
open Go.Sx Go.Sx.M

/-- May a prefix be? -/
def rightB (w : Int) (a b : BitVec 64) (n : Int) : Bool := (w == 32 || w == 128) && (decide (0 ≤ n) && (decide (n ≤ w) && (a &&& mkW n == a && b &&& mkW (n - 64) == b)))

def makeF : List Arg → (Res → Prop) → Prop
  | [.v (.agg [.w64 a, .w64 b]), .v (.int .i64 n)], R => R (.v (.agg [.w64 (a &&& mkW n), .w64 (b &&& mkW (n - 64)), .int .i64 (clamp n)]))
  | _, _ => False

def rightF : List Arg → (Res → Prop) → Prop
  | [.v (.int .i64 w), .v (.agg [.w64 a, .w64 b, .int .i64 n])], R => R (.v (.bool (rightB w a b n)))
  | _, _ => False

noncomputable def pmakeCs : List (FuncId × Sx.Spec) := [(39, genSpec [none, none] cutF)]

noncomputable def prightCs : List (FuncId × Sx.Spec) := [(24, genSpec [none, none] makeF)]

def rrSt (_ : Int) (a b : BitVec 64) (k : Int) : St :=
  ⟨[.any, .any, .any, .any, .lit (.bool false), .slice 1 0 128 false, .int .i64 k, .any, .any, .any, .any, .any, .any, .any, .any, .any, .any, .any, .any, .any, .any, .any, .any, .any, .any, .any, .any, .any, .any, .any, .any, .any, .any, .any, .any, .any, .any], [none, some ⟨true, 4, 1, true, bitsOf a b⟩]⟩

def rrM : Modes := ⟨[0, 0, 0, 0, 1, 1, 1, 0, 0, 0, 0, 0, 0, 0, 0, 0, 0, 0, 0, 0, 0, 0, 0, 0, 0, 0, 0, 0, 0, 0, 0, 0, 0, 0, 0, 0, 0], [0, 1], [0, 1], [], []⟩

def rrI (a b : BitVec 64) (n : Int) (k : Int) : Prop := n ≤ k ∧ 0 ≤ k ∧ k ≤ 128 ∧ ∀ i : Nat, n ≤ (i : Int) → (i : Int) < k → bitAt a b i = false

def rrL (w : Int) (a b : BitVec 64) (n : Int) : List Hint := [.linv _ n (rrSt w a b) (rrI a b n) (fun k => (200 - k).toNat) rrM rrM rrM (fun _ => []) fun k =>
  [.fork [.dy, .cell (.bool (bitAt a b k.toNat)), .fork [] [.nw]] []]]

def rrH (w : Int) (a b : BitVec 64) (n : Int) : List Hint :=
  [.fork [.fork [] [.fork [] [.fork [] (rrL w a b n)]]] [.fork [] [.fork [] (rrL w a b n)]]]

def ofB (w : Int) (a b : BitVec 64) : Bool := (w == 32 || w == 128) && (a &&& mkW w == a && b &&& mkW (w - 64) == b)

def ofF : List Arg → (Res → Prop) → Prop
  | [.v (.int .i64 w), .v (.agg [.w64 a, .w64 b])], R => R (.v (.bool (ofB w a b)))
  | _, _ => False

noncomputable def bitsCs0 : List (FuncId × Sx.Spec) := [(31, genSpec [none] bitsF)]

noncomputable def ofCs : List (FuncId × Sx.Spec) := [(39, genSpec [none, none] cutF)]

theorem pmake_run (a b : BitVec 64) (n : Int) (r : AV) : run pmakeCs Tryd.prog 24 [.agg [.w64 a, .w64 b], .int .i64 n] [] [] (yields (.v r)) =
    (Go.Sx.AV.agg (List.map Go.Sx.canon1 (List.take (3 : Nat) (List.drop (0 : Nat) [Go.Sx.AV.w64 (a &&& Go.Proofs.YtkdcajibehpeaaaDoor.L1.mkW n), Go.Sx.AV.w64 (b &&& Go.Proofs.YtkdcajibehpeaaaDoor.L1.mkW (n - (64 : Int))), Go.Sx.AV.int Go.IntKind.i64 (if (128 : Int) < if (0 : Int) > n then (0 : Int) else n then (128 : Int) else if (0 : Int) > n then (0 : Int) else n)]))) = r) := by kernel_rfl

theorem pright_run (w : Int) (a b : BitVec 64) (n : Int) (r : AV) : run prightCs Tryd.prog 25 [.int .i64 w, .agg [.w64 a, .w64 b, .int .i64 n]] [] [.fork [.fork [] []] [.fork [.fork [] []] []]] (yields (.v r)) =
    (((w == (32 : Int)) = Bool.true → (Decidable.decide (n ≤ w) = Bool.true → Go.Sx.AV.bool (a &&& Go.Proofs.YtkdcajibehpeaaaDoor.L1.mkW n == a && b &&& Go.Proofs.YtkdcajibehpeaaaDoor.L1.mkW (n - (64 : Int)) == b && Go.Proofs.YtkdcajibehpeaaaDoor.L1.clamp n == n) = r) ∧ (Decidable.decide (n ≤ w) = Bool.false → Go.Sx.AV.bool Bool.false = r)) ∧ ((w == (32 : Int)) = Bool.false → ((w == (128 : Int)) = Bool.true → (Decidable.decide (n ≤ w) = Bool.true → Go.Sx.AV.bool (a &&& Go.Proofs.YtkdcajibehpeaaaDoor.L1.mkW n == a && b &&& Go.Proofs.YtkdcajibehpeaaaDoor.L1.mkW (n - (64 : Int)) == b && Go.Proofs.YtkdcajibehpeaaaDoor.L1.clamp n == n) = r) ∧ (Decidable.decide (n ≤ w) = Bool.false → Go.Sx.AV.bool Bool.false = r)) ∧ ((w == (128 : Int)) = Bool.false → Go.Sx.AV.bool Bool.false = r))) := by kernel_rfl

theorem rright_run (w : Int) (a b : BitVec 64) (n : Int) (r : AV) : run bitsCs0 Tryd.prog 13 [.int .i64 w, .agg [.w64 a, .w64 b, .int .i64 n]] [] (rrH w a b n) (yields (.v r)) =
    (((w != (32 : Int)) = Bool.true → ((w != (128 : Int)) = Bool.true → Go.Sx.AV.bool Bool.false = r) ∧ ((w != (128 : Int)) = Bool.false → (Decidable.decide (n < (0 : Int)) = Bool.true → Go.Sx.AV.bool Bool.false = r) ∧ (Decidable.decide (n < (0 : Int)) = Bool.false → (Decidable.decide (n > w) = Bool.true → Go.Sx.AV.bool Bool.false = r) ∧ (Decidable.decide (n > w) = Bool.false → (Go.Sx.St.mk [Go.Sx.AV.any, Go.Sx.AV.any, Go.Sx.AV.any, Go.Sx.AV.any, Go.Sx.AV.lit (Go.Value.bool Bool.false), Go.Sx.AV.slice ((0 : Nat) + (1 : Nat)) (0 : Nat) (List.length (Go.Proofs.YtkdcajibehpeaaaDoor.L1.bitsOf a b)) Bool.false, Go.Sx.AV.int Go.IntKind.i64 n, Go.Sx.AV.any, Go.Sx.AV.any, Go.Sx.AV.any, Go.Sx.AV.any, Go.Sx.AV.any, Go.Sx.AV.any, Go.Sx.AV.any, Go.Sx.AV.any, Go.Sx.AV.any, Go.Sx.AV.any, Go.Sx.AV.any, Go.Sx.AV.any, Go.Sx.AV.any, Go.Sx.AV.any, Go.Sx.AV.any, Go.Sx.AV.any, Go.Sx.AV.any, Go.Sx.AV.any, Go.Sx.AV.any, Go.Sx.AV.any, Go.Sx.AV.any, Go.Sx.AV.any, Go.Sx.AV.any, Go.Sx.AV.any, Go.Sx.AV.any, Go.Sx.AV.any, Go.Sx.AV.any, Go.Sx.AV.any, Go.Sx.AV.any, Go.Sx.AV.any] [Option.none, Option.some (Go.Sx.Blk.mk Bool.true (4 : Go.TypeId) (1 : Nat) Bool.true (Go.Proofs.YtkdcajibehpeaaaDoor.L1.bitsOf a b))] = Go.Proofs.YtkdcajibehpeaaaDoor.L1.rrSt w a b n ∧ Go.Proofs.YtkdcajibehpeaaaDoor.L1.rrI a b n n) ∧ ∀ (p : Int), Go.Proofs.YtkdcajibehpeaaaDoor.L1.rrI a b n p → (Decidable.decide (p < (128 : Int)) = Bool.true → ((0 : Int) ≤ p ∧ p < (↑(128 : Nat) : Int)) ∧ Go.Sx.Blk.read Go.Proofs.Tryd.prog (Go.Sx.Blk.mk Bool.true (4 : Go.TypeId) (1 : Nat) Bool.true (Go.Proofs.YtkdcajibehpeaaaDoor.L1.bitsOf a b)) (4 : Nat) ((0 : Nat) + Int.toNat p) (0 : Nat) = Option.some (Go.Sx.AV.bool (Go.Sx.M.bitAt a b (Int.toNat p))) ∧ (Go.Sx.M.bitAt a b (Int.toNat p) = Bool.true → Go.Sx.AV.bool Bool.false = r) ∧ (Go.Sx.M.bitAt a b (Int.toNat p) = Bool.false → Go.Sx.inRange Go.IntKind.i64 (p + (1 : Int)) ∧ ∃ (p' : Int), Go.Sx.St.mk [Go.Sx.AV.any, Go.Sx.AV.any, Go.Sx.AV.any, Go.Sx.AV.any, Go.Sx.AV.lit (Go.Value.bool Bool.false), Go.Sx.AV.slice ((0 : Nat) + (1 : Nat)) (0 : Nat) (128 : Nat) Bool.false, Go.Sx.AV.int Go.IntKind.i64 (p + (1 : Int)), Go.Sx.AV.any, Go.Sx.AV.any, Go.Sx.AV.any, Go.Sx.AV.any, Go.Sx.AV.any, Go.Sx.AV.any, Go.Sx.AV.any, Go.Sx.AV.any, Go.Sx.AV.any, Go.Sx.AV.any, Go.Sx.AV.any, Go.Sx.AV.any, Go.Sx.AV.any, Go.Sx.AV.any, Go.Sx.AV.any, Go.Sx.AV.any, Go.Sx.AV.any, Go.Sx.AV.any, Go.Sx.AV.any, Go.Sx.AV.any, Go.Sx.AV.any, Go.Sx.AV.any, Go.Sx.AV.any, Go.Sx.AV.any, Go.Sx.AV.any, Go.Sx.AV.any, Go.Sx.AV.any, Go.Sx.AV.any, Go.Sx.AV.any, Go.Sx.AV.any] [Option.none, Option.some (Go.Sx.Blk.mk Bool.true (4 : Go.TypeId) (1 : Nat) Bool.true (Go.Proofs.YtkdcajibehpeaaaDoor.L1.bitsOf a b))] = Go.Proofs.YtkdcajibehpeaaaDoor.L1.rrSt w a b p' ∧ Go.Proofs.YtkdcajibehpeaaaDoor.L1.rrI a b n p' ∧ Int.toNat ((200 : Int) - p') < Int.toNat ((200 : Int) - p))) ∧ (Decidable.decide (p < (128 : Int)) = Bool.false → Go.Sx.AV.bool Bool.true = r))))) ∧ ((w != (32 : Int)) = Bool.false → (Decidable.decide (n < (0 : Int)) = Bool.true → Go.Sx.AV.bool Bool.false = r) ∧ (Decidable.decide (n < (0 : Int)) = Bool.false → (Decidable.decide (n > w) = Bool.true → Go.Sx.AV.bool Bool.false = r) ∧ (Decidable.decide (n > w) = Bool.false → (Go.Sx.St.mk [Go.Sx.AV.any, Go.Sx.AV.any, Go.Sx.AV.any, Go.Sx.AV.any, Go.Sx.AV.lit (Go.Value.bool Bool.false), Go.Sx.AV.slice ((0 : Nat) + (1 : Nat)) (0 : Nat) (List.length (Go.Proofs.YtkdcajibehpeaaaDoor.L1.bitsOf a b)) Bool.false, Go.Sx.AV.int Go.IntKind.i64 n, Go.Sx.AV.any, Go.Sx.AV.any, Go.Sx.AV.any, Go.Sx.AV.any, Go.Sx.AV.any, Go.Sx.AV.any, Go.Sx.AV.any, Go.Sx.AV.any, Go.Sx.AV.any, Go.Sx.AV.any, Go.Sx.AV.any, Go.Sx.AV.any, Go.Sx.AV.any, Go.Sx.AV.any, Go.Sx.AV.any, Go.Sx.AV.any, Go.Sx.AV.any, Go.Sx.AV.any, Go.Sx.AV.any, Go.Sx.AV.any, Go.Sx.AV.any, Go.Sx.AV.any, Go.Sx.AV.any, Go.Sx.AV.any, Go.Sx.AV.any, Go.Sx.AV.any, Go.Sx.AV.any, Go.Sx.AV.any, Go.Sx.AV.any, Go.Sx.AV.any] [Option.none, Option.some (Go.Sx.Blk.mk Bool.true (4 : Go.TypeId) (1 : Nat) Bool.true (Go.Proofs.YtkdcajibehpeaaaDoor.L1.bitsOf a b))] = Go.Proofs.YtkdcajibehpeaaaDoor.L1.rrSt w a b n ∧ Go.Proofs.YtkdcajibehpeaaaDoor.L1.rrI a b n n) ∧ ∀ (p : Int), Go.Proofs.YtkdcajibehpeaaaDoor.L1.rrI a b n p → (Decidable.decide (p < (128 : Int)) = Bool.true → ((0 : Int) ≤ p ∧ p < (↑(128 : Nat) : Int)) ∧ Go.Sx.Blk.read Go.Proofs.Tryd.prog (Go.Sx.Blk.mk Bool.true (4 : Go.TypeId) (1 : Nat) Bool.true (Go.Proofs.YtkdcajibehpeaaaDoor.L1.bitsOf a b)) (4 : Nat) ((0 : Nat) + Int.toNat p) (0 : Nat) = Option.some (Go.Sx.AV.bool (Go.Sx.M.bitAt a b (Int.toNat p))) ∧ (Go.Sx.M.bitAt a b (Int.toNat p) = Bool.true → Go.Sx.AV.bool Bool.false = r) ∧ (Go.Sx.M.bitAt a b (Int.toNat p) = Bool.false → Go.Sx.inRange Go.IntKind.i64 (p + (1 : Int)) ∧ ∃ (p' : Int), Go.Sx.St.mk [Go.Sx.AV.any, Go.Sx.AV.any, Go.Sx.AV.any, Go.Sx.AV.any, Go.Sx.AV.lit (Go.Value.bool Bool.false), Go.Sx.AV.slice ((0 : Nat) + (1 : Nat)) (0 : Nat) (128 : Nat) Bool.false, Go.Sx.AV.int Go.IntKind.i64 (p + (1 : Int)), Go.Sx.AV.any, Go.Sx.AV.any, Go.Sx.AV.any, Go.Sx.AV.any, Go.Sx.AV.any, Go.Sx.AV.any, Go.Sx.AV.any, Go.Sx.AV.any, Go.Sx.AV.any, Go.Sx.AV.any, Go.Sx.AV.any, Go.Sx.AV.any, Go.Sx.AV.any, Go.Sx.AV.any, Go.Sx.AV.any, Go.Sx.AV.any, Go.Sx.AV.any, Go.Sx.AV.any, Go.Sx.AV.any, Go.Sx.AV.any, Go.Sx.AV.any, Go.Sx.AV.any, Go.Sx.AV.any, Go.Sx.AV.any, Go.Sx.AV.any, Go.Sx.AV.any, Go.Sx.AV.any, Go.Sx.AV.any, Go.Sx.AV.any, Go.Sx.AV.any] [Option.none, Option.some (Go.Sx.Blk.mk Bool.true (4 : Go.TypeId) (1 : Nat) Bool.true (Go.Proofs.YtkdcajibehpeaaaDoor.L1.bitsOf a b))] = Go.Proofs.YtkdcajibehpeaaaDoor.L1.rrSt w a b p' ∧ Go.Proofs.YtkdcajibehpeaaaDoor.L1.rrI a b n p' ∧ Int.toNat ((200 : Int) - p') < Int.toNat ((200 : Int) - p))) ∧ (Decidable.decide (p < (128 : Int)) = Bool.false → Go.Sx.AV.bool Bool.true = r))))) := by kernel_rfl

theorem of_run (w : Int) (a b : BitVec 64) (r : AV) : run ofCs Tryd.prog 23 [.int .i64 w, .agg [.w64 a, .w64 b]] [] [.fork [] [.fork [] []]] (yields (.v r)) =
    (((w == (32 : Int)) = Bool.true → Go.Sx.AV.bool (a &&& Go.Proofs.YtkdcajibehpeaaaDoor.L1.mkW w == a && b &&& Go.Proofs.YtkdcajibehpeaaaDoor.L1.mkW (w - (64 : Int)) == b) = r) ∧ ((w == (32 : Int)) = Bool.false → ((w == (128 : Int)) = Bool.true → Go.Sx.AV.bool (a &&& Go.Proofs.YtkdcajibehpeaaaDoor.L1.mkW w == a && b &&& Go.Proofs.YtkdcajibehpeaaaDoor.L1.mkW (w - (64 : Int)) == b) = r) ∧ ((w == (128 : Int)) = Bool.false → Go.Sx.AV.bool Bool.false = r))) := by kernel_rfl

theorem pmakeCs_ok : ∀ e ∈ pmakeCs, SpecOK Tryd.prog e.1 e.2 := by
  intro e he
  simp only [pmakeCs, List.mem_cons, List.not_mem_nil, or_false] at he
  rcases he with rfl
  exact cut_ok

theorem pmake_ok : SpecOK Tryd.prog 24 (genSpec [none, none] makeF) := by
  refine genSpec_ok (run_ok (l := pmakeCs) pmakeCs_ok mixed noNG) fun l R hF => ?_
  unfold makeF at hF
  split at hF
  · rename_i a b n
    refine ⟨_, hF, rfl, [], ?_⟩
    show run pmakeCs Tryd.prog _ [.agg [.w64 a, .w64 b], .int .i64 n] [] _ _
    rw [pmake_run, clamp_eq]
    rfl
  · exact hF.elim

theorem clamp_iff {n : Int} : clamp n = n ↔ 0 ≤ n ∧ n ≤ 128 := by unfold clamp; omega

theorem prightCs_ok : ∀ e ∈ prightCs, SpecOK Tryd.prog e.1 e.2 := by
  intro e he
  simp only [prightCs, List.mem_cons, List.not_mem_nil, or_false] at he
  rcases he with rfl
  exact pmake_ok

theorem pright_ok : SpecOK Tryd.prog 25 (genSpec [none, none] rightF) := by
  refine genSpec_ok (run_ok (l := prightCs) prightCs_ok mixed noNG) fun l R hF => ?_
  unfold rightF at hF
  split at hF
  · rename_i w a b n
    refine ⟨_, hF, rfl, [.fork [.fork [] []] [.fork [.fork [] []] []]], ?_⟩
    show run prightCs Tryd.prog _ [.int .i64 w, .agg [.w64 a, .w64 b, .int .i64 n]] [] _ _
    rw [pright_run]
    have key : w ≤ 128 → n ≤ w → (a &&& mkW n == a && b &&& mkW (n - 64) == b && clamp n == n) = (decide (0 ≤ n) && (a &&& mkW n == a && b &&& mkW (n - 64) == b)) := fun hw hn => by
      have : (clamp n == n) = decide (0 ≤ n) := by
        rw [Bool.eq_iff_iff, beq_iff_eq, decide_eq_true_eq, clamp_iff]; omega
      rw [this, Bool.and_comm]
    refine ⟨fun h => ⟨fun h1 => ?_, fun h1 => ?_⟩, fun h => ⟨fun h2 => ⟨fun h1 => ?_, fun h1 => ?_⟩, fun h2 => ?_⟩⟩
    all_goals
      congr 1
      unfold rightB
      rw [h]
    · have e : w = 32 := by simpa using h
      rw [key (by omega) (by simpa using h1), h1]; simp
    · rw [h1]; simp
    · have e : w = 128 := by simpa using h2
      rw [h2, key (by omega) (by simpa using h1), h1]; simp
    · rw [h2, h1]; simp
    · rw [h2]; simp
  · exact hF.elim

theorem bitsCs0_ok : ∀ e ∈ bitsCs0, SpecOK Tryd.prog e.1 e.2 := by
  intro e he
  simp only [bitsCs0, List.mem_cons, List.not_mem_nil, or_false] at he
  rcases he with rfl
  exact bits_ok

theorem rright_ok : SpecOK Tryd.prog 13 (genSpec [none, none] rightF) := by
  refine genSpec_ok (run_ok (l := bitsCs0) bitsCs0_ok mixed noNG) fun l R hF => ?_
  unfold rightF at hF
  split at hF
  · rename_i w a b n
    refine ⟨_, hF, rfl, rrH w a b n, ?_⟩
    show run bitsCs0 Tryd.prog _ [.int .i64 w, .agg [.w64 a, .w64 b, .int .i64 n]] [] _ _
    rw [rright_run]
    have hL : (w = 32 ∨ w = 128) → 0 ≤ n → n ≤ w → rrI a b n n ∧ (∀ k, rrI a b n k → k < 128 → bitAt a b k.toNat = true → rightB w a b n = false) ∧ (∀ k, rrI a b n k → k < 128 → bitAt a b k.toNat = false → rrI a b n (k + 1)) ∧ ∀ k, rrI a b n k → ¬ k < 128 → rightB w a b n = true := by
      intro hw h0 hn
      refine ⟨⟨by omega, by omega, by omega, fun i h1 h2 => by omega⟩, fun k ⟨h1, h2, h3, h4⟩ hk hb => ?_, fun k ⟨h1, h2, h3, h4⟩ hk hb => ⟨by omega, by omega, by omega, fun i h5 h6 => ?_⟩, fun k ⟨h1, h2, h3, h4⟩ hk => ?_⟩
      · cases hr : rightB w a b n with
        | false => rfl
        | true =>
          unfold rightB at hr
          simp only [Bool.and_eq_true] at hr
          have := cut_self.1 (by simpa using hr.2.2.2) k.toNat (by omega) (by omega)
          rw [this] at hb; cases hb
      · rcases Int.lt_or_eq_of_le (show (i : Int) ≤ k from by omega) with h | h
        · exact h4 i h5 h
        · rw [show i = k.toNat from by omega]; exact hb
      · unfold rightB
        rw [cut_self.2 fun i hi h => h4 i h (by omega), decide_eq_true h0, decide_eq_true hn]
        rcases hw with rfl | rfl <;> rfl
    have bad : ¬ ((w = 32 ∨ w = 128) ∧ 0 ≤ n ∧ n ≤ w) → AV.bool false = AV.bool (rightB w a b n) := by
      intro h
      cases hr : rightB w a b n with
      | false => rfl
      | true =>
        unfold rightB at hr
        simp only [Bool.and_eq_true, Bool.or_eq_true, beq_iff_eq, decide_eq_true_eq] at hr
        exact absurd ⟨hr.1, hr.2.1, hr.2.2.1⟩ h
    refine ⟨fun a1 => ⟨fun a2 => bad ?_, fun a2 => ⟨fun a3 => bad ?_, fun a3 => ⟨fun a4 => bad ?_, fun a4 => ?_⟩⟩⟩, fun a1 => ⟨fun a3 => bad ?_, fun a3 => ⟨fun a4 => bad ?_, fun a4 => ?_⟩⟩⟩
    all_goals
      simp only [bne_iff_ne, ne_eq, decide_eq_true_eq, decide_eq_false_iff_not, bne_eq_false_iff_eq] at *
    · omega
    · omega
    · omega
    · obtain ⟨l0, l1, l2, l3⟩ := hL (by omega) (by omega) (by omega)
      refine ⟨⟨rfl, l0⟩, fun k hk => ⟨fun hlt => ⟨⟨hk.2.1, by omega⟩, read_bits hk.2.1 (by omega) rfl, fun hb => by rw [l1 k hk hlt hb], fun hb => ⟨inR (by have := hk.2.1; omega) (by omega), k + 1, rfl, l2 k hk hlt hb, by omega⟩⟩, fun hge => by rw [l3 k hk hge]⟩⟩
    · omega
    · omega
    · obtain ⟨l0, l1, l2, l3⟩ := hL (by omega) (by omega) (by omega)
      refine ⟨⟨rfl, l0⟩, fun k hk => ⟨fun hlt => ⟨⟨hk.2.1, by omega⟩, read_bits hk.2.1 (by omega) rfl, fun hb => by rw [l1 k hk hlt hb], fun hb => ⟨inR (by have := hk.2.1; omega) (by omega), k + 1, rfl, l2 k hk hlt hb, by omega⟩⟩, fun hge => by rw [l3 k hk hge]⟩⟩
  · exact hF.elim

theorem ofCs_ok : ∀ e ∈ ofCs, SpecOK Tryd.prog e.1 e.2 := by
  intro e he
  simp only [ofCs, List.mem_cons, List.not_mem_nil, or_false] at he
  rcases he with rfl
  exact cut_ok

theorem of_ok : SpecOK Tryd.prog 23 (genSpec [none, none] ofF) := by
  refine genSpec_ok (run_ok (l := ofCs) ofCs_ok mixed noNG) fun l R hF => ?_
  unfold ofF at hF
  split at hF
  · rename_i w a b
    refine ⟨_, hF, rfl, [.fork [] [.fork [] []]], ?_⟩
    show run ofCs Tryd.prog _ [.int .i64 w, .agg [.w64 a, .w64 b]] [] _ _
    rw [of_run]
    unfold ofB
    refine ⟨fun h => ?_, fun h => ⟨fun h2 => ?_, fun h2 => ?_⟩⟩
    · rw [h]; rfl
    · rw [h, h2]; rfl
    · rw [h, h2]; rfl
  · exact hF.elim

end Go.Proofs.YtkdcajibehpeaaaDoor.L1
