/-
  Layer 2: contracts of the document's own functions on prefixes.
-/
import Derived.Test.YtffcpblbdfjagaaL2A
import Derived.Test.YtffcpblbdfjagaaL1Op
namespace Go.Proofs.Ytffcpblbdfjagaa.L1
open Go.Sx Go.Sx.M

def nearF : List Arg → (Res → Prop) → Prop
  | [.v (.int .i64 n)], R => R (.v (.int .i64 (clamp n)))
  | _, _ => False

def rrSt (w : Int) (a b : BitVec 64) (k : Int) : St :=
  ⟨[.any, .any, .any, .any, .lit (.bool false), .slice 1 0 128 false, .int .i64 k, .any, .any, .any, .any, .any, .any, .any, .any, .any, .any, .any, .any, .any, .any, .any, .any, .any, .any, .any, .any, .any, .any, .any, .any, .any, .any, .any, .any, .any, .any], [none, some ⟨true, 4, 1, true, bitsOf a b⟩]⟩

def rrM : Modes := ⟨[0, 0, 0, 0, 1, 1, 1, 0, 0, 0, 0, 0, 0, 0, 0, 0, 0, 0, 0, 0, 0, 0, 0, 0, 0, 0, 0, 0, 0, 0, 0, 0, 0, 0, 0, 0, 0], [0, 1], [0, 1], [], []⟩

def rrI (a b : BitVec 64) (n : Int) (k : Int) : Prop := n ≤ k ∧ 0 ≤ k ∧ k ≤ 128 ∧ ∀ i : Nat, n ≤ (i : Int) → (i : Int) < k → bitAt a b i = false

def rrL (w : Int) (a b : BitVec 64) (n : Int) : List Hint := [.linv _ n (rrSt w a b) (rrI a b n) (fun k => (200 - k).toNat) rrM rrM rrM (fun _ => []) fun k =>
  [.fork [.dy, .cell (.bool (bitAt a b k.toNat)), .fork [] [.nw]] []]]

def rrH (w : Int) (a b : BitVec 64) (n : Int) : List Hint :=
  [.fork [.fork [] [.fork [] [.fork [] (rrL w a b n)]]] [.fork [] [.fork [] (rrL w a b n)]]]

/-- The greatest address. -/
def lastW (w : Int) (a : BitVec 64) (n : Int) : BitVec 64 := a ||| (mkW w ^^^ mkW n)

def lastF : List Arg → (Res → Prop) → Prop
  | [.v (.int .i64 w), .v (.agg [.w64 a, .w64 b, .int .i64 n])], R => (rightB w a b n = false → R (.v (.agg [.w64 (BitVec.ofInt 64 0), .w64 (BitVec.ofInt 64 0)]))) ∧ (rightB w a b n = true → R (.v (.agg [.w64 (lastW w a n), .w64 (lastW (w - 64) b (n - 64))])))
  | _, _ => False

/-- Those from n to k turned to true. -/
def lastL (a b : BitVec 64) (n k : Int) : List Bool := (List.range 128).map fun (i : Nat) => if n ≤ (i : Int) ∧ (i : Int) < k then true else bitAt a b i

def rlSt (F : List Bool → List AV) (w : Int) (a b : BitVec 64) (n k : Int) : St :=
  ⟨[.int .i64 w, .any, .any, .any, .ptr 1 0 0 true, .slice 2 0 128 false, .int .i64 k, .any, .any, .any, .any, .any, .any, .any, .any, .any, .any, .any, .any, .any, .any, .any], [none, some ⟨true, 24, 2, true, [.agg [.lit (.int .u64 0), .lit (.int .u64 0)]]⟩, some ⟨true, 4, 1, true, F (lastL a b n k)⟩]⟩

def rlM : Modes := ⟨[1, 0, 0, 0, 1, 1, 1, 0, 0, 0, 0, 0, 0, 0, 0, 0, 0, 0, 0, 0, 0, 0], [0, 1, 2], [0, 1, 1], [], []⟩

def rlI (w n k : Int) : Prop := n ≤ k ∧ k ≤ w

def rlH (F : List Bool → List AV) (w : Int) (a b : BitVec 64) (n : Int) : List Hint := [.linv _ n (rlSt F w a b n) (rlI w n) (fun k => (200 - k).toNat) rlM rlM rlM (fun _ => []) fun k =>
  [.fork [.dy, .rows (F (lastL a b n (k + 1))), .nw] []]]

noncomputable def bitsCs0 : List (FuncId × Sx.Spec) := [(55, genSpec [none] bitsF)]

theorem rright_run (w : Int) (a b : BitVec 64) (n : Int) (r : AV) : run bitsCs0 Try.prog 40 [.int .i64 w, .agg [.w64 a, .w64 b, .int .i64 n]] [] (rrH w a b n) (yields (.v r)) =
    (((w != (32 : Int)) = Bool.true → ((w != (128 : Int)) = Bool.true → Go.Sx.AV.bool Bool.false = r) ∧ ((w != (128 : Int)) = Bool.false → (Decidable.decide (n < (0 : Int)) = Bool.true → Go.Sx.AV.bool Bool.false = r) ∧ (Decidable.decide (n < (0 : Int)) = Bool.false → (Decidable.decide (n > w) = Bool.true → Go.Sx.AV.bool Bool.false = r) ∧ (Decidable.decide (n > w) = Bool.false → (Go.Sx.St.mk [Go.Sx.AV.any, Go.Sx.AV.any, Go.Sx.AV.any, Go.Sx.AV.any, Go.Sx.AV.lit (Go.Value.bool Bool.false), Go.Sx.AV.slice ((0 : Nat) + (1 : Nat)) (0 : Nat) (List.length (Go.Proofs.Ytffcpblbdfjagaa.L1.bitsOf a b)) Bool.false, Go.Sx.AV.int Go.IntKind.i64 n, Go.Sx.AV.any, Go.Sx.AV.any, Go.Sx.AV.any, Go.Sx.AV.any, Go.Sx.AV.any, Go.Sx.AV.any, Go.Sx.AV.any, Go.Sx.AV.any, Go.Sx.AV.any, Go.Sx.AV.any, Go.Sx.AV.any, Go.Sx.AV.any, Go.Sx.AV.any, Go.Sx.AV.any, Go.Sx.AV.any, Go.Sx.AV.any, Go.Sx.AV.any, Go.Sx.AV.any, Go.Sx.AV.any, Go.Sx.AV.any, Go.Sx.AV.any, Go.Sx.AV.any, Go.Sx.AV.any, Go.Sx.AV.any, Go.Sx.AV.any, Go.Sx.AV.any, Go.Sx.AV.any, Go.Sx.AV.any, Go.Sx.AV.any, Go.Sx.AV.any] [Option.none, Option.some (Go.Sx.Blk.mk Bool.true (4 : Go.TypeId) (1 : Nat) Bool.true (Go.Proofs.Ytffcpblbdfjagaa.L1.bitsOf a b))] = Go.Proofs.Ytffcpblbdfjagaa.L1.rrSt w a b n ∧ Go.Proofs.Ytffcpblbdfjagaa.L1.rrI a b n n) ∧ ∀ (p : Int), Go.Proofs.Ytffcpblbdfjagaa.L1.rrI a b n p → (Decidable.decide (p < (128 : Int)) = Bool.true → ((0 : Int) ≤ p ∧ p < (↑(128 : Nat) : Int)) ∧ Go.Sx.Blk.read Go.Proofs.Try.prog (Go.Sx.Blk.mk Bool.true (4 : Go.TypeId) (1 : Nat) Bool.true (Go.Proofs.Ytffcpblbdfjagaa.L1.bitsOf a b)) (4 : Nat) ((0 : Nat) + Int.toNat p) (0 : Nat) = Option.some (Go.Sx.AV.bool (Go.Sx.M.bitAt a b (Int.toNat p))) ∧ (Go.Sx.M.bitAt a b (Int.toNat p) = Bool.true → Go.Sx.AV.bool Bool.false = r) ∧ (Go.Sx.M.bitAt a b (Int.toNat p) = Bool.false → Go.Sx.inRange Go.IntKind.i64 (p + (1 : Int)) ∧ ∃ (p' : Int), Go.Sx.St.mk [Go.Sx.AV.any, Go.Sx.AV.any, Go.Sx.AV.any, Go.Sx.AV.any, Go.Sx.AV.lit (Go.Value.bool Bool.false), Go.Sx.AV.slice ((0 : Nat) + (1 : Nat)) (0 : Nat) (128 : Nat) Bool.false, Go.Sx.AV.int Go.IntKind.i64 (p + (1 : Int)), Go.Sx.AV.any, Go.Sx.AV.any, Go.Sx.AV.any, Go.Sx.AV.any, Go.Sx.AV.any, Go.Sx.AV.any, Go.Sx.AV.any, Go.Sx.AV.any, Go.Sx.AV.any, Go.Sx.AV.any, Go.Sx.AV.any, Go.Sx.AV.any, Go.Sx.AV.any, Go.Sx.AV.any, Go.Sx.AV.any, Go.Sx.AV.any, Go.Sx.AV.any, Go.Sx.AV.any, Go.Sx.AV.any, Go.Sx.AV.any, Go.Sx.AV.any, Go.Sx.AV.any, Go.Sx.AV.any, Go.Sx.AV.any, Go.Sx.AV.any, Go.Sx.AV.any, Go.Sx.AV.any, Go.Sx.AV.any, Go.Sx.AV.any, Go.Sx.AV.any] [Option.none, Option.some (Go.Sx.Blk.mk Bool.true (4 : Go.TypeId) (1 : Nat) Bool.true (Go.Proofs.Ytffcpblbdfjagaa.L1.bitsOf a b))] = Go.Proofs.Ytffcpblbdfjagaa.L1.rrSt w a b p' ∧ Go.Proofs.Ytffcpblbdfjagaa.L1.rrI a b n p' ∧ Int.toNat ((200 : Int) - p') < Int.toNat ((200 : Int) - p))) ∧ (Decidable.decide (p < (128 : Int)) = Bool.false → Go.Sx.AV.bool Bool.true = r))))) ∧ ((w != (32 : Int)) = Bool.false → (Decidable.decide (n < (0 : Int)) = Bool.true → Go.Sx.AV.bool Bool.false = r) ∧ (Decidable.decide (n < (0 : Int)) = Bool.false → (Decidable.decide (n > w) = Bool.true → Go.Sx.AV.bool Bool.false = r) ∧ (Decidable.decide (n > w) = Bool.false → (Go.Sx.St.mk [Go.Sx.AV.any, Go.Sx.AV.any, Go.Sx.AV.any, Go.Sx.AV.any, Go.Sx.AV.lit (Go.Value.bool Bool.false), Go.Sx.AV.slice ((0 : Nat) + (1 : Nat)) (0 : Nat) (List.length (Go.Proofs.Ytffcpblbdfjagaa.L1.bitsOf a b)) Bool.false, Go.Sx.AV.int Go.IntKind.i64 n, Go.Sx.AV.any, Go.Sx.AV.any, Go.Sx.AV.any, Go.Sx.AV.any, Go.Sx.AV.any, Go.Sx.AV.any, Go.Sx.AV.any, Go.Sx.AV.any, Go.Sx.AV.any, Go.Sx.AV.any, Go.Sx.AV.any, Go.Sx.AV.any, Go.Sx.AV.any, Go.Sx.AV.any, Go.Sx.AV.any, Go.Sx.AV.any, Go.Sx.AV.any, Go.Sx.AV.any, Go.Sx.AV.any, Go.Sx.AV.any, Go.Sx.AV.any, Go.Sx.AV.any, Go.Sx.AV.any, Go.Sx.AV.any, Go.Sx.AV.any, Go.Sx.AV.any, Go.Sx.AV.any, Go.Sx.AV.any, Go.Sx.AV.any, Go.Sx.AV.any] [Option.none, Option.some (Go.Sx.Blk.mk Bool.true (4 : Go.TypeId) (1 : Nat) Bool.true (Go.Proofs.Ytffcpblbdfjagaa.L1.bitsOf a b))] = Go.Proofs.Ytffcpblbdfjagaa.L1.rrSt w a b n ∧ Go.Proofs.Ytffcpblbdfjagaa.L1.rrI a b n n) ∧ ∀ (p : Int), Go.Proofs.Ytffcpblbdfjagaa.L1.rrI a b n p → (Decidable.decide (p < (128 : Int)) = Bool.true → ((0 : Int) ≤ p ∧ p < (↑(128 : Nat) : Int)) ∧ Go.Sx.Blk.read Go.Proofs.Try.prog (Go.Sx.Blk.mk Bool.true (4 : Go.TypeId) (1 : Nat) Bool.true (Go.Proofs.Ytffcpblbdfjagaa.L1.bitsOf a b)) (4 : Nat) ((0 : Nat) + Int.toNat p) (0 : Nat) = Option.some (Go.Sx.AV.bool (Go.Sx.M.bitAt a b (Int.toNat p))) ∧ (Go.Sx.M.bitAt a b (Int.toNat p) = Bool.true → Go.Sx.AV.bool Bool.false = r) ∧ (Go.Sx.M.bitAt a b (Int.toNat p) = Bool.false → Go.Sx.inRange Go.IntKind.i64 (p + (1 : Int)) ∧ ∃ (p' : Int), Go.Sx.St.mk [Go.Sx.AV.any, Go.Sx.AV.any, Go.Sx.AV.any, Go.Sx.AV.any, Go.Sx.AV.lit (Go.Value.bool Bool.false), Go.Sx.AV.slice ((0 : Nat) + (1 : Nat)) (0 : Nat) (128 : Nat) Bool.false, Go.Sx.AV.int Go.IntKind.i64 (p + (1 : Int)), Go.Sx.AV.any, Go.Sx.AV.any, Go.Sx.AV.any, Go.Sx.AV.any, Go.Sx.AV.any, Go.Sx.AV.any, Go.Sx.AV.any, Go.Sx.AV.any, Go.Sx.AV.any, Go.Sx.AV.any, Go.Sx.AV.any, Go.Sx.AV.any, Go.Sx.AV.any, Go.Sx.AV.any, Go.Sx.AV.any, Go.Sx.AV.any, Go.Sx.AV.any, Go.Sx.AV.any, Go.Sx.AV.any, Go.Sx.AV.any, Go.Sx.AV.any, Go.Sx.AV.any, Go.Sx.AV.any, Go.Sx.AV.any, Go.Sx.AV.any, Go.Sx.AV.any, Go.Sx.AV.any, Go.Sx.AV.any, Go.Sx.AV.any, Go.Sx.AV.any] [Option.none, Option.some (Go.Sx.Blk.mk Bool.true (4 : Go.TypeId) (1 : Nat) Bool.true (Go.Proofs.Ytffcpblbdfjagaa.L1.bitsOf a b))] = Go.Proofs.Ytffcpblbdfjagaa.L1.rrSt w a b p' ∧ Go.Proofs.Ytffcpblbdfjagaa.L1.rrI a b n p' ∧ Int.toNat ((200 : Int) - p') < Int.toNat ((200 : Int) - p))) ∧ (Decidable.decide (p < (128 : Int)) = Bool.false → Go.Sx.AV.bool Bool.true = r))))) := by kernel_rfl

theorem near_run (n : Int) (r : AV) : run [] Try.prog 63 [.int .i64 n] [] [.fork [] [.fork [] []]] (yields (.v r)) =
    ((Decidable.decide (n < (0 : Int)) = Bool.true → Go.Sx.AV.int Go.IntKind.i64 (0 : Int) = r) ∧ (Decidable.decide (n < (0 : Int)) = Bool.false → (Decidable.decide (n > (128 : Int)) = Bool.true → Go.Sx.AV.int Go.IntKind.i64 (128 : Int) = r) ∧ (Decidable.decide (n > (128 : Int)) = Bool.false → Go.Sx.AV.int Go.IntKind.i64 n = r))) := by kernel_rfl

theorem bitsCs0_ok : ∀ e ∈ bitsCs0, SpecOK Try.prog e.1 e.2 := by
  intro e he
  simp only [bitsCs0, List.mem_cons, List.not_mem_nil, or_false] at he
  rcases he with rfl
  exact bits_ok

theorem rright_ok : SpecOK Try.prog 40 (genSpec [none, none] rightF) := by
  refine genSpec_ok (run_ok (l := bitsCs0) bitsCs0_ok mixed noNG) fun l R hF => ?_
  unfold rightF at hF
  split at hF
  · rename_i w a b n
    refine ⟨_, hF, rfl, rrH w a b n, ?_⟩
    show run bitsCs0 Try.prog _ [.int .i64 w, .agg [.w64 a, .w64 b, .int .i64 n]] [] _ _
    rw [rright_run]
    have hL : (w = 32 ∨ w = 128) → 0 ≤ n → n ≤ w → rrI a b n n ∧ (∀ k, rrI a b n k → k < 128 → bitAt a b k.toNat = true → rightB w a b n = false) ∧ (∀ k, rrI a b n k → k < 128 → bitAt a b k.toNat = false → rrI a b n (k + 1)) ∧ ∀ k, rrI a b n k → ¬ k < 128 → rightB w a b n = true := by
      intro hw h0 hn
      refine ⟨⟨by omega, by omega, by omega, fun i h1 h2 => by omega⟩, fun k ⟨h1, h2, h3, h4⟩ hk hb => ?_, fun k ⟨h1, h2, h3, h4⟩ hk hb => ⟨by omega, by omega, by omega, fun i h5 h6 => ?_⟩, fun k ⟨h1, h2, h3, h4⟩ hk => ?_⟩
      · cases hr : rightB w a b n with
        | false => rfl
        | true =>
          unfold rightB at hr
          simp only [Bool.and_eq_true] at hr
          have := cut_self.1 (by simpa using hr.2.2.2) k.toNat (by omega) (by omega)
          rw [this] at hb; cases hb
      · rcases Int.lt_or_eq_of_le (show (i : Int) ≤ k from by omega) with h | h
        · exact h4 i h5 h
        · rw [show i = k.toNat from by omega]; exact hb
      · unfold rightB
        rw [cut_self.2 fun i hi h => h4 i h (by omega), decide_eq_true h0, decide_eq_true hn]
        rcases hw with rfl | rfl <;> rfl
    have bad : ¬ ((w = 32 ∨ w = 128) ∧ 0 ≤ n ∧ n ≤ w) → AV.bool false = AV.bool (rightB w a b n) := by
      intro h
      cases hr : rightB w a b n with
      | false => rfl
      | true =>
        unfold rightB at hr
        simp only [Bool.and_eq_true, Bool.or_eq_true, beq_iff_eq, decide_eq_true_eq] at hr
        exact absurd ⟨hr.1, hr.2.1, hr.2.2.1⟩ h
    refine ⟨fun a1 => ⟨fun a2 => bad ?_, fun a2 => ⟨fun a3 => bad ?_, fun a3 => ⟨fun a4 => bad ?_, fun a4 => ?_⟩⟩⟩, fun a1 => ⟨fun a3 => bad ?_, fun a3 => ⟨fun a4 => bad ?_, fun a4 => ?_⟩⟩⟩
    all_goals
      simp only [bne_iff_ne, ne_eq, decide_eq_true_eq, decide_eq_false_iff_not, bne_eq_false_iff_eq] at *
    · omega
    · omega
    · omega
    · obtain ⟨l0, l1, l2, l3⟩ := hL (by omega) (by omega) (by omega)
      refine ⟨⟨rfl, l0⟩, fun k hk => ⟨fun hlt => ⟨⟨hk.2.1, by omega⟩, read_bits hk.2.1 (by omega) rfl, fun hb => by rw [l1 k hk hlt hb], fun hb => ⟨inR (by have := hk.2.1; omega) (by omega), k + 1, rfl, l2 k hk hlt hb, by omega⟩⟩, fun hge => by rw [l3 k hk hge]⟩⟩
    · omega
    · omega
    · obtain ⟨l0, l1, l2, l3⟩ := hL (by omega) (by omega) (by omega)
      refine ⟨⟨rfl, l0⟩, fun k hk => ⟨fun hlt => ⟨⟨hk.2.1, by omega⟩, read_bits hk.2.1 (by omega) rfl, fun hb => by rw [l1 k hk hlt hb], fun hb => ⟨inR (by have := hk.2.1; omega) (by omega), k + 1, rfl, l2 k hk hlt hb, by omega⟩⟩, fun hge => by rw [l3 k hk hge]⟩⟩
  · exact hF.elim

theorem near_ok : SpecOK Try.prog 63 (genSpec [none] nearF) := by
  refine genSpec_ok none_ok fun l R hF => ?_
  unfold nearF at hF
  split at hF
  · rename_i n
    refine ⟨_, hF, rfl, [.fork [] [.fork [] []]], ?_⟩
    show run [] Try.prog _ [.int .i64 n] [] _ _
    rw [near_run]
    simp only [decide_eq_true_eq, decide_eq_false_iff_not]
    refine ⟨fun h => ?_, fun h => ⟨fun h1 => ?_, fun h1 => ?_⟩⟩
    all_goals
      congr 1
      unfold clamp
      omega
  · exact hF.elim

end Go.Proofs.Ytffcpblbdfjagaa.L1
