/-
  Texts in one: L2A L2R L2Join L2B L2M L2S.
-/
import Derived.Test.YtfcjghgfanaipaaL1a

section
/-
  Layer 2: contracts of the program's and the document's calls on prefixes.
-/
namespace Go.Proofs.Ytfcjghgfanaipaa.L1
open Go.Sx Go.Sx.M

/-- May a prefix be? -/
def rightB (w : Int) (a b : BitVec 64) (n : Int) : Bool := (w == 32 || w == 128) && (decide (0 ≤ n) && (decide (n ≤ w) && (a &&& mkW n == a && b &&& mkW (n - 64) == b)))

/-- Do the first n bits agree? -/
def matchB (a b : BitVec 64) (n : Int) (c d : BitVec 64) : Bool := a &&& mkW n == c &&& mkW n && b &&& mkW (n - 64) == d &&& mkW (n - 64)

def makeF : List Arg → (Res → Prop) → Prop
  | [.v (.agg [.w64 a, .w64 b]), .v (.int .i64 n)], R => R (.v (.agg [.w64 (a &&& mkW n), .w64 (b &&& mkW (n - 64)), .int .i64 (clamp n)]))
  | _, _ => False

def rightF : List Arg → (Res → Prop) → Prop
  | [.v (.int .i64 w), .v (.agg [.w64 a, .w64 b, .int .i64 n])], R => R (.v (.bool (rightB w a b n)))
  | _, _ => False

def matchF : List Arg → (Res → Prop) → Prop
  | [.v (.agg [.w64 a, .w64 b, .int .i64 n]), .v (.agg [.w64 c, .w64 d])], R => R (.v (.bool (matchB a b n c d)))
  | _, _ => False

def coversF : List Arg → (Res → Prop) → Prop
  | [.v (.agg [.w64 a, .w64 b, .int .i64 n]), .v (.agg [.w64 c, .w64 d, .int .i64 m])], R => R (.v (.bool (decide (n ≤ m) && matchB a b n c d)))
  | _, _ => False

noncomputable def pmakeCs : List (FuncId × Sx.Spec) := [(51, genSpec [none, none] cutF)]

noncomputable def prightCs : List (FuncId × Sx.Spec) := [(30, genSpec [none, none] makeF)]

noncomputable def pcoversCs : List (FuncId × Sx.Spec) := [(40, genSpec [none, none] matchF)]

theorem pmake_run (a b : BitVec 64) (n : Int) (r : AV) : run pmakeCs Try.prog 30 [.agg [.w64 a, .w64 b], .int .i64 n] [] [] (yields (.v r)) =
    (Go.Sx.AV.agg (List.map Go.Sx.canon1 (List.take (3 : Nat) (List.drop (0 : Nat) [Go.Sx.AV.w64 (a &&& Go.Proofs.Ytfcjghgfanaipaa.L1.mkW n), Go.Sx.AV.w64 (b &&& Go.Proofs.Ytfcjghgfanaipaa.L1.mkW (n - (64 : Int))), Go.Sx.AV.int Go.IntKind.i64 (if (128 : Int) < if (0 : Int) > n then (0 : Int) else n then (128 : Int) else if (0 : Int) > n then (0 : Int) else n)]))) = r) := by kernel_rfl

theorem pright_run (w : Int) (a b : BitVec 64) (n : Int) (r : AV) : run prightCs Try.prog 23 [.int .i64 w, .agg [.w64 a, .w64 b, .int .i64 n]] [] [.fork [.fork [] []] [.fork [.fork [] []] []]] (yields (.v r)) =
    (((w == (32 : Int)) = Bool.true → (Decidable.decide (n ≤ w) = Bool.true → Go.Sx.AV.bool (a &&& Go.Proofs.Ytfcjghgfanaipaa.L1.mkW n == a && b &&& Go.Proofs.Ytfcjghgfanaipaa.L1.mkW (n - (64 : Int)) == b && Go.Proofs.Ytfcjghgfanaipaa.L1.clamp n == n) = r) ∧ (Decidable.decide (n ≤ w) = Bool.false → Go.Sx.AV.bool Bool.false = r)) ∧ ((w == (32 : Int)) = Bool.false → ((w == (128 : Int)) = Bool.true → (Decidable.decide (n ≤ w) = Bool.true → Go.Sx.AV.bool (a &&& Go.Proofs.Ytfcjghgfanaipaa.L1.mkW n == a && b &&& Go.Proofs.Ytfcjghgfanaipaa.L1.mkW (n - (64 : Int)) == b && Go.Proofs.Ytfcjghgfanaipaa.L1.clamp n == n) = r) ∧ (Decidable.decide (n ≤ w) = Bool.false → Go.Sx.AV.bool Bool.false = r)) ∧ ((w == (128 : Int)) = Bool.false → Go.Sx.AV.bool Bool.false = r))) := by kernel_rfl

theorem pmatch_run (a b : BitVec 64) (n : Int) (c d : BitVec 64) (r : AV) : run pmakeCs Try.prog 40 [.agg [.w64 a, .w64 b, .int .i64 n], .agg [.w64 c, .w64 d]] [] [] (yields (.v r)) =
    (Go.Sx.AV.bool (c &&& Go.Proofs.Ytfcjghgfanaipaa.L1.mkW n == a &&& Go.Proofs.Ytfcjghgfanaipaa.L1.mkW n && d &&& Go.Proofs.Ytfcjghgfanaipaa.L1.mkW (n - (64 : Int)) == b &&& Go.Proofs.Ytfcjghgfanaipaa.L1.mkW (n - (64 : Int))) = r) := by kernel_rfl

theorem pcovers_run (a b : BitVec 64) (n : Int) (c d : BitVec 64) (m : Int) (r : AV) : run pcoversCs Try.prog 36 [.agg [.w64 a, .w64 b, .int .i64 n], .agg [.w64 c, .w64 d, .int .i64 m]] [] [.fork [] []] (yields (.v r)) =
    ((Decidable.decide (m ≥ n) = Bool.true → Go.Sx.AV.bool (Go.Proofs.Ytfcjghgfanaipaa.L1.matchB a b n c d) = r) ∧ (Decidable.decide (m ≥ n) = Bool.false → Go.Sx.AV.bool Bool.false = r)) := by kernel_rfl

theorem pmakeCs_ok : ∀ e ∈ pmakeCs, SpecOK Try.prog e.1 e.2 := by
  intro e he
  simp only [pmakeCs, List.mem_cons, List.not_mem_nil, or_false] at he
  rcases he with rfl
  exact cut_ok

theorem pmake_ok : SpecOK Try.prog 30 (genSpec [none, none] makeF) := by
  refine genSpec_ok (run_ok (l := pmakeCs) pmakeCs_ok mixed noNG) fun l R hF => ?_
  unfold makeF at hF
  split at hF
  · rename_i a b n
    refine ⟨_, hF, rfl, [], ?_⟩
    show run pmakeCs Try.prog _ [.agg [.w64 a, .w64 b], .int .i64 n] [] _ _
    rw [pmake_run, clamp_eq]
    rfl
  · exact hF.elim

theorem clamp_iff {n : Int} : clamp n = n ↔ 0 ≤ n ∧ n ≤ 128 := by unfold clamp; omega

theorem prightCs_ok : ∀ e ∈ prightCs, SpecOK Try.prog e.1 e.2 := by
  intro e he
  simp only [prightCs, List.mem_cons, List.not_mem_nil, or_false] at he
  rcases he with rfl
  exact pmake_ok

theorem pright_ok : SpecOK Try.prog 23 (genSpec [none, none] rightF) := by
  refine genSpec_ok (run_ok (l := prightCs) prightCs_ok mixed noNG) fun l R hF => ?_
  unfold rightF at hF
  split at hF
  · rename_i w a b n
    refine ⟨_, hF, rfl, [.fork [.fork [] []] [.fork [.fork [] []] []]], ?_⟩
    show run prightCs Try.prog _ [.int .i64 w, .agg [.w64 a, .w64 b, .int .i64 n]] [] _ _
    rw [pright_run]
    have key : w ≤ 128 → n ≤ w → (a &&& mkW n == a && b &&& mkW (n - 64) == b && clamp n == n) = (decide (0 ≤ n) && (a &&& mkW n == a && b &&& mkW (n - 64) == b)) := fun hw hn => by
      have : (clamp n == n) = decide (0 ≤ n) := by
        rw [Bool.eq_iff_iff, beq_iff_eq, decide_eq_true_eq, clamp_iff]; omega
      rw [this, Bool.and_comm]
    refine ⟨fun h => ⟨fun h1 => ?_, fun h1 => ?_⟩, fun h => ⟨fun h2 => ⟨fun h1 => ?_, fun h1 => ?_⟩, fun h2 => ?_⟩⟩
    all_goals
      congr 1
      unfold rightB
      rw [h]
    · have e : w = 32 := by simpa using h
      rw [key (by omega) (by simpa using h1), h1]; simp
    · rw [h1]; simp
    · have e : w = 128 := by simpa using h2
      rw [h2, key (by omega) (by simpa using h1), h1]; simp
    · rw [h2, h1]; simp
    · rw [h2]; simp
  · exact hF.elim

theorem matchB_comm {a b c d : BitVec 64} {n : Int} : matchB a b n c d = matchB c d n a b := by
  unfold matchB
  rw [Bool.eq_iff_iff]
  simp only [Bool.and_eq_true, beq_iff_eq]
  exact ⟨fun h => ⟨h.1.symm, h.2.symm⟩, fun h => ⟨h.1.symm, h.2.symm⟩⟩

theorem pmatch_ok : SpecOK Try.prog 40 (genSpec [none, none] matchF) := by
  refine genSpec_ok (run_ok (l := pmakeCs) pmakeCs_ok mixed noNG) fun l R hF => ?_
  unfold matchF at hF
  split at hF
  · rename_i a b n c d
    refine ⟨_, hF, rfl, [], ?_⟩
    show run pmakeCs Try.prog _ [.agg [.w64 a, .w64 b, .int .i64 n], .agg [.w64 c, .w64 d]] [] _ _
    rw [pmatch_run, matchB_comm]
    rfl
  · exact hF.elim

theorem pcoversCs_ok : ∀ e ∈ pcoversCs, SpecOK Try.prog e.1 e.2 := by
  intro e he
  simp only [pcoversCs, List.mem_cons, List.not_mem_nil, or_false] at he
  rcases he with rfl
  exact pmatch_ok

theorem pcovers_ok : SpecOK Try.prog 36 (genSpec [none, none] coversF) := by
  refine genSpec_ok (run_ok (l := pcoversCs) pcoversCs_ok mixed noNG) fun l R hF => ?_
  unfold coversF at hF
  split at hF
  · rename_i a b n c d m
    refine ⟨_, hF, rfl, [.fork [] []], ?_⟩
    show run pcoversCs Try.prog _ [.agg [.w64 a, .w64 b, .int .i64 n], .agg [.w64 c, .w64 d, .int .i64 m]] [] _ _
    rw [pcovers_run]
    refine ⟨fun h => ?_, fun h => ?_⟩
    · rw [show decide (n ≤ m) = true from h, Bool.true_and]
    · rw [show decide (n ≤ m) = false from h, Bool.false_and]
  · exact hF.elim

end Go.Proofs.Ytfcjghgfanaipaa.L1
end

section
/-
  Layer 2: contracts of the document's own functions on prefixes.
-/
namespace Go.Proofs.Ytfcjghgfanaipaa.L1
open Go.Sx Go.Sx.M

def nearF : List Arg → (Res → Prop) → Prop
  | [.v (.int .i64 n)], R => R (.v (.int .i64 (clamp n)))
  | _, _ => False

def rrSt (_ : Int) (a b : BitVec 64) (k : Int) : St :=
  ⟨[.any, .any, .any, .any, .lit (.bool false), .slice 1 0 128 false, .int .i64 k, .any, .any, .any, .any, .any, .any, .any, .any, .any, .any, .any, .any, .any, .any, .any, .any, .any, .any, .any, .any, .any, .any, .any, .any, .any, .any, .any, .any, .any, .any], [none, some ⟨true, 4, 1, true, bitsOf a b⟩]⟩

def rrM : Modes := ⟨[0, 0, 0, 0, 1, 1, 1, 0, 0, 0, 0, 0, 0, 0, 0, 0, 0, 0, 0, 0, 0, 0, 0, 0, 0, 0, 0, 0, 0, 0, 0, 0, 0, 0, 0, 0, 0], [0, 1], [0, 1], [], []⟩

def rrI (a b : BitVec 64) (n : Int) (k : Int) : Prop := n ≤ k ∧ 0 ≤ k ∧ k ≤ 128 ∧ ∀ i : Nat, n ≤ (i : Int) → (i : Int) < k → bitAt a b i = false

def rrL (w : Int) (a b : BitVec 64) (n : Int) : List Hint := [.linv _ n (rrSt w a b) (rrI a b n) (fun k => (200 - k).toNat) rrM rrM rrM (fun _ => []) fun k =>
  [.fork [.dy, .cell (.bool (bitAt a b k.toNat)), .fork [] [.nw]] []]]

def rrH (w : Int) (a b : BitVec 64) (n : Int) : List Hint :=
  [.fork [.fork [] [.fork [] [.fork [] (rrL w a b n)]]] [.fork [] [.fork [] (rrL w a b n)]]]

noncomputable def bitsCs0 : List (FuncId × Sx.Spec) := [(64, genSpec [none] bitsF)]

theorem rright_run (w : Int) (a b : BitVec 64) (n : Int) (r : AV) : run bitsCs0 Try.prog 60 [.int .i64 w, .agg [.w64 a, .w64 b, .int .i64 n]] [] (rrH w a b n) (yields (.v r)) =
    (((w != (32 : Int)) = true → ((w != (128 : Int)) = true → AV.bool false = r) ∧ ((w != (128 : Int)) = false → (Decidable.decide (n < (0 : Int)) = true → AV.bool false = r) ∧ (Decidable.decide (n < (0 : Int)) = false → (Decidable.decide (n > w) = true → AV.bool false = r) ∧ (Decidable.decide (n > w) = false → (St.mk [AV.any, AV.any, AV.any, AV.any, AV.lit (Value.bool false), AV.slice ((0 : Nat) + (1 : Nat)) (0 : Nat) (List.length (bitsOf a b)) false, AV.int IntKind.i64 n, AV.any, AV.any, AV.any, AV.any, AV.any, AV.any, AV.any, AV.any, AV.any, AV.any, AV.any, AV.any, AV.any, AV.any, AV.any, AV.any, AV.any, AV.any, AV.any, AV.any, AV.any, AV.any, AV.any, AV.any, AV.any, AV.any, AV.any, AV.any, AV.any, AV.any] [none, some (Blk.mk true (4 : TypeId) (1 : Nat) true (bitsOf a b))] = rrSt w a b n ∧ rrI a b n n) ∧ ∀ (p : Int), rrI a b n p → (Decidable.decide (p < (128 : Int)) = true → ((0 : Int) ≤ p ∧ p < (↑(128 : Nat) : Int)) ∧ Blk.read Proofs.Try.prog (Blk.mk true (4 : TypeId) (1 : Nat) true (bitsOf a b)) (4 : Nat) ((0 : Nat) + Int.toNat p) (0 : Nat) = some (AV.bool (bitAt a b (Int.toNat p))) ∧ (bitAt a b (Int.toNat p) = true → AV.bool false = r) ∧ (bitAt a b (Int.toNat p) = false → inRange IntKind.i64 (p + (1 : Int)) ∧ ∃ (p' : Int), St.mk [AV.any, AV.any, AV.any, AV.any, AV.lit (Value.bool false), AV.slice ((0 : Nat) + (1 : Nat)) (0 : Nat) (128 : Nat) false, AV.int IntKind.i64 (p + (1 : Int)), AV.any, AV.any, AV.any, AV.any, AV.any, AV.any, AV.any, AV.any, AV.any, AV.any, AV.any, AV.any, AV.any, AV.any, AV.any, AV.any, AV.any, AV.any, AV.any, AV.any, AV.any, AV.any, AV.any, AV.any, AV.any, AV.any, AV.any, AV.any, AV.any, AV.any] [none, some (Blk.mk true (4 : TypeId) (1 : Nat) true (bitsOf a b))] = rrSt w a b p' ∧ rrI a b n p' ∧ Int.toNat ((200 : Int) - p') < Int.toNat ((200 : Int) - p))) ∧ (Decidable.decide (p < (128 : Int)) = false → AV.bool true = r))))) ∧ ((w != (32 : Int)) = false → (Decidable.decide (n < (0 : Int)) = true → AV.bool false = r) ∧ (Decidable.decide (n < (0 : Int)) = false → (Decidable.decide (n > w) = true → AV.bool false = r) ∧ (Decidable.decide (n > w) = false → (St.mk [AV.any, AV.any, AV.any, AV.any, AV.lit (Value.bool false), AV.slice ((0 : Nat) + (1 : Nat)) (0 : Nat) (List.length (bitsOf a b)) false, AV.int IntKind.i64 n, AV.any, AV.any, AV.any, AV.any, AV.any, AV.any, AV.any, AV.any, AV.any, AV.any, AV.any, AV.any, AV.any, AV.any, AV.any, AV.any, AV.any, AV.any, AV.any, AV.any, AV.any, AV.any, AV.any, AV.any, AV.any, AV.any, AV.any, AV.any, AV.any, AV.any] [none, some (Blk.mk true (4 : TypeId) (1 : Nat) true (bitsOf a b))] = rrSt w a b n ∧ rrI a b n n) ∧ ∀ (p : Int), rrI a b n p → (Decidable.decide (p < (128 : Int)) = true → ((0 : Int) ≤ p ∧ p < (↑(128 : Nat) : Int)) ∧ Blk.read Proofs.Try.prog (Blk.mk true (4 : TypeId) (1 : Nat) true (bitsOf a b)) (4 : Nat) ((0 : Nat) + Int.toNat p) (0 : Nat) = some (AV.bool (bitAt a b (Int.toNat p))) ∧ (bitAt a b (Int.toNat p) = true → AV.bool false = r) ∧ (bitAt a b (Int.toNat p) = false → inRange IntKind.i64 (p + (1 : Int)) ∧ ∃ (p' : Int), St.mk [AV.any, AV.any, AV.any, AV.any, AV.lit (Value.bool false), AV.slice ((0 : Nat) + (1 : Nat)) (0 : Nat) (128 : Nat) false, AV.int IntKind.i64 (p + (1 : Int)), AV.any, AV.any, AV.any, AV.any, AV.any, AV.any, AV.any, AV.any, AV.any, AV.any, AV.any, AV.any, AV.any, AV.any, AV.any, AV.any, AV.any, AV.any, AV.any, AV.any, AV.any, AV.any, AV.any, AV.any, AV.any, AV.any, AV.any, AV.any, AV.any, AV.any] [none, some (Blk.mk true (4 : TypeId) (1 : Nat) true (bitsOf a b))] = rrSt w a b p' ∧ rrI a b n p' ∧ Int.toNat ((200 : Int) - p') < Int.toNat ((200 : Int) - p))) ∧ (Decidable.decide (p < (128 : Int)) = false → AV.bool true = r))))) := by kernel_rfl

theorem near_run (n : Int) (r : AV) : run [] Try.prog 65 [.int .i64 n] [] [.fork [] [.fork [] []]] (yields (.v r)) =
    ((Decidable.decide (n < (0 : Int)) = true → AV.int IntKind.i64 (0 : Int) = r) ∧ (Decidable.decide (n < (0 : Int)) = false → (Decidable.decide (n > (128 : Int)) = true → AV.int IntKind.i64 (128 : Int) = r) ∧ (Decidable.decide (n > (128 : Int)) = false → AV.int IntKind.i64 n = r))) := by kernel_rfl

theorem bitsCs0_ok : ∀ e ∈ bitsCs0, SpecOK Try.prog e.1 e.2 := by
  intro e he
  simp only [bitsCs0, List.mem_cons, List.not_mem_nil, or_false] at he
  rcases he with rfl
  exact bits_ok

theorem rright_ok : SpecOK Try.prog 60 (genSpec [none, none] rightF) := by
  refine genSpec_ok (run_ok (l := bitsCs0) bitsCs0_ok mixed noNG) fun l R hF => ?_
  unfold rightF at hF
  split at hF
  · rename_i w a b n
    refine ⟨_, hF, rfl, rrH w a b n, ?_⟩
    show run bitsCs0 Try.prog _ [.int .i64 w, .agg [.w64 a, .w64 b, .int .i64 n]] [] _ _
    rw [rright_run]
    have hL : (w = 32 ∨ w = 128) → 0 ≤ n → n ≤ w → rrI a b n n ∧ (∀ k, rrI a b n k → k < 128 → bitAt a b k.toNat = true → rightB w a b n = false) ∧ (∀ k, rrI a b n k → k < 128 → bitAt a b k.toNat = false → rrI a b n (k + 1)) ∧ ∀ k, rrI a b n k → ¬ k < 128 → rightB w a b n = true := by
      intro hw h0 hn
      refine ⟨⟨by omega, by omega, by omega, fun i h1 h2 => by omega⟩, fun k ⟨h1, h2, h3, h4⟩ hk hb => ?_, fun k ⟨h1, h2, h3, h4⟩ hk hb => ⟨by omega, by omega, by omega, fun i h5 h6 => ?_⟩, fun k ⟨h1, h2, h3, h4⟩ hk => ?_⟩
      · cases hr : rightB w a b n with
        | false => rfl
        | true =>
          unfold rightB at hr
          simp only [Bool.and_eq_true] at hr
          have := cut_self.1 (by simpa using hr.2.2.2) k.toNat (by omega) (by omega)
          rw [this] at hb; cases hb
      · rcases Int.lt_or_eq_of_le (show (i : Int) ≤ k from by omega) with h | h
        · exact h4 i h5 h
        · rw [show i = k.toNat from by omega]; exact hb
      · unfold rightB
        rw [cut_self.2 fun i hi h => h4 i h (by omega), decide_eq_true h0, decide_eq_true hn]
        rcases hw with rfl | rfl <;> rfl
    have bad : ¬ ((w = 32 ∨ w = 128) ∧ 0 ≤ n ∧ n ≤ w) → AV.bool false = AV.bool (rightB w a b n) := by
      intro h
      cases hr : rightB w a b n with
      | false => rfl
      | true =>
        unfold rightB at hr
        simp only [Bool.and_eq_true, Bool.or_eq_true, beq_iff_eq, decide_eq_true_eq] at hr
        exact absurd ⟨hr.1, hr.2.1, hr.2.2.1⟩ h
    refine ⟨fun a1 => ⟨fun a2 => bad ?_, fun a2 => ⟨fun a3 => bad ?_, fun a3 => ⟨fun a4 => bad ?_, fun a4 => ?_⟩⟩⟩, fun a1 => ⟨fun a3 => bad ?_, fun a3 => ⟨fun a4 => bad ?_, fun a4 => ?_⟩⟩⟩
    all_goals
      simp only [bne_iff_ne, ne_eq, decide_eq_true_eq, decide_eq_false_iff_not, bne_eq_false_iff_eq] at *
    · omega
    · omega
    · omega
    · obtain ⟨l0, l1, l2, l3⟩ := hL (by omega) (by omega) (by omega)
      refine ⟨⟨rfl, l0⟩, fun k hk => ⟨fun hlt => ⟨⟨hk.2.1, by omega⟩, read_bits hk.2.1 (by omega) rfl, fun hb => by rw [l1 k hk hlt hb], fun hb => ⟨inR (by have := hk.2.1; omega) (by omega), k + 1, rfl, l2 k hk hlt hb, by omega⟩⟩, fun hge => by rw [l3 k hk hge]⟩⟩
    · omega
    · omega
    · obtain ⟨l0, l1, l2, l3⟩ := hL (by omega) (by omega) (by omega)
      refine ⟨⟨rfl, l0⟩, fun k hk => ⟨fun hlt => ⟨⟨hk.2.1, by omega⟩, read_bits hk.2.1 (by omega) rfl, fun hb => by rw [l1 k hk hlt hb], fun hb => ⟨inR (by have := hk.2.1; omega) (by omega), k + 1, rfl, l2 k hk hlt hb, by omega⟩⟩, fun hge => by rw [l3 k hk hge]⟩⟩
  · exact hF.elim

theorem near_ok : SpecOK Try.prog 65 (genSpec [none] nearF) := by
  refine genSpec_ok none_ok fun l R hF => ?_
  unfold nearF at hF
  split at hF
  · rename_i n
    refine ⟨_, hF, rfl, [.fork [] [.fork [] []]], ?_⟩
    show run [] Try.prog _ [.int .i64 n] [] _ _
    rw [near_run]
    simp only [decide_eq_true_eq, decide_eq_false_iff_not]
    refine ⟨fun h => ?_, fun h => ⟨fun h1 => ?_, fun h1 => ?_⟩⟩
    all_goals
      congr 1
      unfold clamp
      omega
  · exact hF.elim

end Go.Proofs.Ytfcjghgfanaipaa.L1
end

section
/-
  Layer 2: the contract of Join.
-/
namespace Go.Proofs.Ytfcjghgfanaipaa.L1
open Go.Sx Go.Sx.M

end Go.Proofs.Ytfcjghgfanaipaa.L1
end

section
/-
  Layer 2: contracts of Last, Join, Compare, Parent, Sibling, Of.
-/
namespace Go.Proofs.Ytfcjghgfanaipaa.L1
open Go.Sx Go.Sx.M

/-- Which of two numbers is the greater one. -/
def cmpI (m n : Int) : Int := if m = n then 0 else if m < n then -1 else 1

def orI (m n : Int) : Int := if m = 0 then n else m

/-- The order of two prefixes. -/
def cmpP (a b : BitVec 64) (n : Int) (c d : BitVec 64) (m : Int) : Int := orI (cmpV (V a b) (V c d)) (cmpI n m)

def cmppF : List Arg → (Res → Prop) → Prop
  | [.v (.agg [.w64 a, .w64 b, .int .i64 n]), .v (.agg [.w64 c, .w64 d, .int .i64 m])], R => R (.v (.int .i64 (cmpP a b n c d m)))
  | _, _ => False

def pInt : Par := some (3, 1)


theorem cmpi_run (m n : Int) (r : AV) : run [] Try.prog 59 [.int .i64 m, .int .i64 n] [] [.br false, .br false, .fork [] [.fork [] []]] (yields (.v r)) =
    ((m != m) = Bool.false ∧ (n != n) = Bool.false ∧ (Decidable.decide (m < n) = Bool.true → Go.Sx.AV.int Go.IntKind.i64 (-1 : Int) = r) ∧ (Decidable.decide (m < n) = Bool.false → (Decidable.decide (m > n) = Bool.true → Go.Sx.AV.int Go.IntKind.i64 (1 : Int) = r) ∧ (Decidable.decide (m > n) = Bool.false → Go.Sx.AV.int Go.IntKind.i64 (0 : Int) = r))) := by kernel_rfl

theorem or_run (m n : Int) (r : AV) : run [] Try.prog 57 [.vsl 0 0 2] [some ⟨false, 3, 1, true, [.int .i64 m, .int .i64 n]⟩] [.loop 3, .br true, .cell (.int .i64 m), .fork [] [.br true, .cell (.int .i64 n), .fork [] [.br false]]] (yields (.v r)) =
    (Decidable.decide ((0 : Int) < (↑(2 : Nat) : Int)) = Bool.true ∧ ((0 : Int) ≤ (0 : Int) ∧ (0 : Int) < (↑(2 : Nat) : Int)) ∧ Go.Sx.Blk.read Go.Proofs.Try.prog (Go.Sx.Blk.mk Bool.false (3 : Go.TypeId) (1 : Nat) Bool.true [Go.Sx.AV.int Go.IntKind.i64 m, Go.Sx.AV.int Go.IntKind.i64 n]) (3 : Nat) ((0 : Nat) + Int.toNat (0 : Int)) (0 : Nat) = Option.some (Go.Sx.AV.int Go.IntKind.i64 m) ∧ ((m != (0 : Int)) = Bool.true → Go.Sx.AV.int Go.IntKind.i64 m = r) ∧ ((m != (0 : Int)) = Bool.false → Decidable.decide ((1 : Int) < (↑(2 : Nat) : Int)) = Bool.true ∧ ((0 : Int) ≤ (1 : Int) ∧ (1 : Int) < (↑(2 : Nat) : Int)) ∧ Go.Sx.Blk.read Go.Proofs.Try.prog (Go.Sx.Blk.mk Bool.false (3 : Go.TypeId) (1 : Nat) Bool.true [Go.Sx.AV.int Go.IntKind.i64 m, Go.Sx.AV.int Go.IntKind.i64 n]) (3 : Nat) ((0 : Nat) + Int.toNat (1 : Int)) (0 : Nat) = Option.some (Go.Sx.AV.int Go.IntKind.i64 n) ∧ ((n != (0 : Int)) = Bool.true → Go.Sx.AV.int Go.IntKind.i64 n = r) ∧ ((n != (0 : Int)) = Bool.false → Decidable.decide ((2 : Int) < (↑(2 : Nat) : Int)) = Bool.false ∧ Go.Sx.AV.int Go.IntKind.i64 (0 : Int) = r))) := by kernel_rfl

def cmpiF : List Arg → (Res → Prop) → Prop
  | [.v (.int .i64 m), .v (.int .i64 n)], R => R (.v (.int .i64 (cmpI m n)))
  | _, _ => False

theorem cmpi_ok : SpecOK Try.prog 59 (genSpec [none, none] cmpiF) := by
  refine genSpec_ok none_ok fun l R hF => ?_
  unfold cmpiF at hF
  split at hF
  · rename_i m n
    refine ⟨_, hF, rfl, [.br false, .br false, .fork [] [.fork [] []]], ?_⟩
    show run [] Try.prog _ [.int .i64 m, .int .i64 n] [] _ _
    rw [cmpi_run]
    simp only [decide_eq_true_eq, decide_eq_false_iff_not]
    refine ⟨by simp, by simp, fun h => ?_, fun h => ⟨fun h2 => ?_, fun h2 => ?_⟩⟩
    all_goals
      congr 1
      unfold cmpI
    · rw [if_neg (by omega), if_pos h]
    · rw [if_neg (by omega), if_neg h]
    · rw [if_pos (by omega)]
  · exact hF.elim

def orF : List Arg → (Res → Prop) → Prop
  | [.row es], R => ∃ m n, es = [.int .i64 m, .int .i64 n] ∧ R (.v (.int .i64 (orI m n)))
  | _, _ => False

theorem or_ok : SpecOK Try.prog 57 (genSpec [pInt] orF) := by
  refine genSpec_ok none_ok fun l R hF => ?_
  unfold orF at hF
  split at hF
  · obtain ⟨m, n, rfl, hF⟩ := hF
    refine ⟨_, hF, rfl, [.loop 3, .br true, .cell (.int .i64 m), .fork [] [.br true, .cell (.int .i64 n), .fork [] [.br false]]], ?_⟩
    show run [] Try.prog _ [.vsl 0 0 2] [some ⟨false, 3, 1, true, [.int .i64 m, .int .i64 n]⟩] _ _
    rw [or_run]
    refine ⟨by decide, by decide, by kernel_rfl, fun h => ?_, fun h => ⟨by decide, by decide, by kernel_rfl, fun h2 => ?_, fun h2 => ⟨by decide, ?_⟩⟩⟩
    all_goals
      congr 1
      unfold orI
      simp only [bne_iff_ne, ne_eq, bne_eq_false_iff_eq] at *
    · rw [if_neg h]
    · rw [if_pos h]
    · rw [if_pos h, h2]
  · exact hF.elim

noncomputable def cmppCs : List (FuncId × Sx.Spec) := [(58, genSpec [none, none] cmpF), (59, genSpec [none, none] cmpiF), (57, genSpec [pInt] orF)]

theorem cmpp_run (a b : BitVec 64) (n : Int) (c d : BitVec 64) (m : Int) (r : AV) : run cmppCs Try.prog 48 [.agg [.w64 a, .w64 b, .int .i64 n], .agg [.w64 c, .w64 d, .int .i64 m]] [] [] (yields (.v r)) =
    (∃ (m_1 : Int), ∃ (n_1 : Int), [Go.Sx.AV.int Go.IntKind.i64 (Go.Sx.M.cmpV (Go.Sx.M.V a b) (Go.Sx.M.V c d)), Go.Sx.AV.int Go.IntKind.i64 (Go.Proofs.Ytfcjghgfanaipaa.L1.cmpI n m)] = [Go.Sx.AV.int Go.IntKind.i64 m_1, Go.Sx.AV.int Go.IntKind.i64 n_1] ∧ Go.Sx.AV.int Go.IntKind.i64 (Go.Proofs.Ytfcjghgfanaipaa.L1.orI m_1 n_1) = r) := by kernel_rfl

theorem cmppCs_ok : ∀ e ∈ cmppCs, SpecOK Try.prog e.1 e.2 := by
  intro e he
  simp only [cmppCs, List.mem_cons, List.not_mem_nil, or_false] at he
  rcases he with rfl | rfl | rfl
  · exact acmp_ok
  · exact cmpi_ok
  · exact or_ok

theorem cmpp_ok : SpecOK Try.prog 48 (genSpec [none, none] cmppF) := by
  refine genSpec_ok (run_ok (l := cmppCs) cmppCs_ok mixed noNG) fun l R hF => ?_
  unfold cmppF at hF
  split at hF
  · rename_i a b n c d m
    refine ⟨_, hF, rfl, [], ?_⟩
    show run cmppCs Try.prog _ [.agg [.w64 a, .w64 b, .int .i64 n], .agg [.w64 c, .w64 d, .int .i64 m]] [] _ _
    rw [cmpp_run]
    exact ⟨_, _, rfl, rfl⟩
  · exact hF.elim

end Go.Proofs.Ytfcjghgfanaipaa.L1
end

section
/-
  Layer 2: what prefixes match, by their bits. Plain mathematics over the contracts' own terms.
-/
namespace Go.Proofs.Ytfcjghgfanaipaa.L1
open Go.Sx Go.Sx.M

theorem match_iff {a b c d : BitVec 64} {n : Int} : matchB a b n c d = true ↔ ∀ i : Nat, i < 128 → (i : Int) < n → bitAt a b i = bitAt c d i := cut_iff

theorem right_iff {w : Int} {a b : BitVec 64} {n : Int} : rightB w a b n = true ↔ (w = 32 ∨ w = 128) ∧ 0 ≤ n ∧ n ≤ w ∧ ∀ i : Nat, i < 128 → n ≤ (i : Int) → bitAt a b i = false := by
  unfold rightB
  rw [Bool.and_eq_true, Bool.and_eq_true, Bool.and_eq_true, Bool.or_eq_true, beq_iff_eq, beq_iff_eq, decide_eq_true_eq, decide_eq_true_eq, cut_self]

theorem V_sub {a b c d : BitVec 64} (h : ∀ i : Nat, i < 128 → bitAt a b i = true → bitAt c d i = true) : V a b ≤ V c d := by
  have hs := com_spec (bitAt a b) (bitAt c d)
  by_cases h128 : com (bitAt a b) (bitAt c d) = 128
  · obtain ⟨rfl, rfl⟩ := com_eq.1 h128
    exact Nat.le_refl _
  · have hlt : com (bitAt a b) (bitAt c d) < 128 := by have := hs.le; omega
    have ho := hs.other hlt
    have hh := h _ hlt
    cases ha : bitAt a b (com (bitAt a b) (bitAt c d)) with
    | true => rw [ha, hh ha] at ho; exact absurd rfl ho
    | false =>
      cases hc : bitAt c d (com (bitAt a b) (bitAt c d)) with
      | false => rw [ha, hc] at ho; exact absurd rfl ho
      | true => exact Nat.le_of_lt (V_less hlt hs.same ha hc)

theorem cmpP_zero {a b : BitVec 64} {n : Int} {c d : BitVec 64} {m : Int} : cmpP a b n c d m = 0 ↔ a = c ∧ b = d ∧ n = m := by
  have h : cmpV (V a b) (V c d) = 0 ↔ a = c ∧ b = d := by
    rw [← V_inj]; unfold cmpV; split
    · simp [*]
    · split <;> simp [*]
  have h2 : cmpI n m = 0 ↔ n = m := by
    unfold cmpI; split
    · simp [*]
    · split <;> simp [*]
  unfold cmpP orI
  by_cases h3 : cmpV (V a b) (V c d) = 0
  · rw [if_pos h3, h2]
    obtain ⟨e1, e2⟩ := h.1 h3
    exact ⟨fun h => ⟨e1, e2, h⟩, fun h => h.2.2⟩
  · rw [if_neg h3]
    exact ⟨fun h4 => absurd h4 h3, fun h4 => absurd (h.2 ⟨h4.1, h4.2.1⟩) h3⟩

end Go.Proofs.Ytfcjghgfanaipaa.L1
end

section
/-
  Layer 2: contracts of the document's own Make, Match, Covers, Compare.
-/
namespace Go.Proofs.Ytfcjghgfanaipaa.L1
open Go.Sx Go.Sx.M

def rmSt (a b c d : BitVec 64) (n : Int) (k : Int) : St :=
  ⟨[.any, .any, .ptr 0 0 0 true, .any, .lit (.bool false), .slice 2 0 128 false, .slice 3 0 128 false, .int .i64 k, .any, .any, .any, .any, .any, .any, .any, .any, .any, .any, .any, .any, .any, .any, .any, .any, .any, .any, .any, .any, .any],
   [some ⟨true, 34, 3, true, [.agg [.w64 a, .w64 b, .int .i64 n]]⟩, none, some ⟨true, 4, 1, true, bitsOf a b⟩, some ⟨true, 4, 1, true, bitsOf c d⟩]⟩

def rmM0 : Modes := ⟨[0, 0, 1, 0, 1, 1, 1, 2, 0, 0, 0, 0, 0, 0, 0, 0, 0, 0, 0, 0, 0, 0, 0, 0, 0, 0, 0, 0, 0], [0, 1, 2, 3], [1, 0, 1, 1], [], []⟩
def rmM : Modes := ⟨[0, 0, 1, 0, 1, 1, 1, 1, 0, 0, 0, 0, 0, 0, 0, 0, 0, 0, 0, 0, 0, 0, 0, 0, 0, 0, 0, 0, 0], [0, 1, 2, 3], [1, 0, 1, 1], [], []⟩

def rmI (a b c d : BitVec 64) (n : Int) (k : Int) : Prop := 0 ≤ k ∧ k ≤ clamp n ∧ ∀ i : Nat, (i : Int) < k → bitAt a b i = bitAt c d i

def rmH (a b c d : BitVec 64) (n : Int) : List Hint := [.linv _ 0 (rmSt a b c d n) (rmI a b c d n) (fun k => (200 - k).toNat) rmM0 rmM rmM (fun _ => []) fun k =>
  [.fork [.dy, .cell (.bool (bitAt a b k.toNat)), .dy, .cell (.bool (bitAt c d k.toNat)), .fork [] [.nw]] []]]

noncomputable def rmCs : List (FuncId × Sx.Spec) := [(64, genSpec [none] bitsF), (65, genSpec [none] nearF)]

noncomputable def rcCs : List (FuncId × Sx.Spec) := [(53, genSpec [none, none] matchF), (61, genSpec [none, none] cmpF)]

theorem rmatch_run (a b : BitVec 64) (n : Int) (c d : BitVec 64) (r : AV) : run rmCs Try.prog 53 [.agg [.w64 a, .w64 b, .int .i64 n], .agg [.w64 c, .w64 d]] [] (rmH a b c d n) (yields (.v r)) =
    ((St.mk [AV.any, AV.any, AV.ptr (0 : Nat) (0 : Nat) (0 : Nat) true, AV.any, AV.lit (Value.bool false), AV.slice ((0 : Nat) + (1 : Nat) + (1 : Nat)) (0 : Nat) (List.length (bitsOf a b)) false, AV.slice ((0 : Nat) + (1 : Nat) + (1 : Nat) + (1 : Nat)) (0 : Nat) (List.length (bitsOf c d)) false, AV.int IntKind.i64 (0 : Int), AV.any, AV.any, AV.any, AV.any, AV.any, AV.any, AV.any, AV.any, AV.any, AV.any, AV.any, AV.any, AV.any, AV.any, AV.any, AV.any, AV.any, AV.any, AV.any, AV.any, AV.any] [some (Blk.mk true (34 : Nat) (3 : Nat) true [AV.agg [AV.w64 a, AV.w64 b, AV.int IntKind.i64 n]]), none, some (Blk.mk true (4 : TypeId) (1 : Nat) true (bitsOf a b)), some (Blk.mk true (4 : TypeId) (1 : Nat) true (bitsOf c d))] = rmSt a b c d n (0 : Int) ∧ rmI a b c d n (0 : Int)) ∧ ∀ (p : Int), rmI a b c d n p → (Decidable.decide (p < clamp n) = true → ((0 : Int) ≤ p ∧ p < (↑(128 : Nat) : Int)) ∧ Blk.read Proofs.Try.prog (Blk.mk true (4 : TypeId) (1 : Nat) true (bitsOf a b)) (4 : Nat) ((0 : Nat) + Int.toNat p) (0 : Nat) = some (AV.bool (bitAt a b (Int.toNat p))) ∧ ((0 : Int) ≤ p ∧ p < (↑(128 : Nat) : Int)) ∧ Blk.read Proofs.Try.prog (Blk.mk true (4 : TypeId) (1 : Nat) true (bitsOf c d)) (4 : Nat) ((0 : Nat) + Int.toNat p) (0 : Nat) = some (AV.bool (bitAt c d (Int.toNat p))) ∧ ((!bitAt a b (Int.toNat p) == bitAt c d (Int.toNat p)) = true → AV.bool false = r) ∧ ((!bitAt a b (Int.toNat p) == bitAt c d (Int.toNat p)) = false → inRange IntKind.i64 (p + (1 : Int)) ∧ ∃ (p' : Int), St.mk [AV.any, AV.any, AV.ptr (0 : Nat) (0 : Nat) (0 : Nat) true, AV.any, AV.lit (Value.bool false), AV.slice ((0 : Nat) + (1 : Nat) + (1 : Nat)) (0 : Nat) (128 : Nat) false, AV.slice ((0 : Nat) + (1 : Nat) + (1 : Nat) + (1 : Nat)) (0 : Nat) (128 : Nat) false, AV.int IntKind.i64 (p + (1 : Int)), AV.any, AV.any, AV.any, AV.any, AV.any, AV.any, AV.any, AV.any, AV.any, AV.any, AV.any, AV.any, AV.any, AV.any, AV.any, AV.any, AV.any, AV.any, AV.any, AV.any, AV.any] [some (Blk.mk true (34 : TypeId) (3 : Nat) true [AV.agg [AV.w64 a, AV.w64 b, AV.int IntKind.i64 n]]), none, some (Blk.mk true (4 : TypeId) (1 : Nat) true (bitsOf a b)), some (Blk.mk true (4 : TypeId) (1 : Nat) true (bitsOf c d))] = rmSt a b c d n p' ∧ rmI a b c d n p' ∧ Int.toNat ((200 : Int) - p') < Int.toNat ((200 : Int) - p))) ∧ (Decidable.decide (p < clamp n) = false → AV.bool true = r)) := by kernel_rfl

theorem rcmp_run (a b : BitVec 64) (n : Int) (c d : BitVec 64) (m : Int) (r : AV) : run rcCs Try.prog 50 [.agg [.w64 a, .w64 b, .int .i64 n], .agg [.w64 c, .w64 d, .int .i64 m]] [] [.fork [.fork [] [.br true, .fork [] []]] [.br false]] (yields (.v r)) =
    (((cmpV (V a b) (V c d) == (0 : Int)) = true → (Decidable.decide (n < m) = true → AV.int IntKind.i64 (-1 : Int) = r) ∧ (Decidable.decide (n < m) = false → (cmpV (V a b) (V c d) == (0 : Int)) = true ∧ (Decidable.decide (n > m) = true → AV.int IntKind.i64 (1 : Int) = r) ∧ (Decidable.decide (n > m) = false → AV.int IntKind.i64 (cmpV (V a b) (V c d)) = r))) ∧ ((cmpV (V a b) (V c d) == (0 : Int)) = false → (cmpV (V a b) (V c d) == (0 : Int)) = false ∧ AV.int IntKind.i64 (cmpV (V a b) (V c d)) = r)) := by kernel_rfl

theorem rmCs_ok : ∀ e ∈ rmCs, SpecOK Try.prog e.1 e.2 := by
  intro e he
  simp only [rmCs, List.mem_cons, List.not_mem_nil, or_false] at he
  rcases he with rfl | rfl
  · exact bits_ok
  · exact near_ok

theorem rmatch_ok : SpecOK Try.prog 53 (genSpec [none, none] matchF) := by
  refine genSpec_ok (run_ok (l := rmCs) rmCs_ok mixed noNG) fun l R hF => ?_
  unfold matchF at hF
  split at hF
  · rename_i a b n c d
    refine ⟨_, hF, rfl, rmH a b c d n, ?_⟩
    show run rmCs Try.prog _ [.agg [.w64 a, .w64 b, .int .i64 n], .agg [.w64 c, .w64 d]] [] _ _
    rw [rmatch_run]
    have hc : 0 ≤ clamp n ∧ clamp n ≤ 128 := by unfold clamp; omega
    refine ⟨⟨rfl, by omega, by omega, fun i hi => by omega⟩, ?_⟩
    rintro k ⟨h0, h1, h2⟩
    refine ⟨fun hlt => ?_, fun hge => ?_⟩
    · have hk : k < clamp n := by simpa using hlt
      refine ⟨by omega, read_bits h0 (by omega) rfl, by omega, read_bits h0 (by omega) rfl, fun hb => ?_, fun hb => ⟨inR (by omega) (by omega), k + 1, rfl, ⟨by omega, by omega, fun i hi => ?_⟩, by omega⟩⟩
      · have : matchB a b n c d = false := by
          cases hm : matchB a b n c d with
          | false => rfl
          | true =>
            have := cut_iff.1 hm k.toNat (by omega) (by unfold clamp at hk; omega)
            simp [this] at hb
        rw [this]
      · rcases Int.lt_or_eq_of_le (show (i : Int) ≤ k by omega) with h | h
        · exact h2 i h
        · have e : i = k.toNat := by omega
          rw [e]; simpa using hb
    · have hk : k = clamp n := by simp only [decide_eq_false_iff_not] at hge; omega
      have : matchB a b n c d = true := cut_iff.2 fun i hi hn => h2 i (by rw [hk]; unfold clamp; omega)
      rw [this]
  · exact hF.elim

theorem rcCs_ok : ∀ e ∈ rcCs, SpecOK Try.prog e.1 e.2 := by
  intro e he
  simp only [rcCs, List.mem_cons, List.not_mem_nil, or_false] at he
  rcases he with rfl | rfl
  · exact rmatch_ok
  · exact cmp_ok

theorem rcmp_ok : SpecOK Try.prog 50 (genSpec [none, none] cmppF) := by
  refine genSpec_ok (run_ok (l := rcCs) rcCs_ok mixed noNG) fun l R hF => ?_
  unfold cmppF at hF
  split at hF
  · rename_i a b n c d m
    refine ⟨_, hF, rfl, [.fork [.fork [] [.br true, .fork [] []]] [.br false]], ?_⟩
    show run rcCs Try.prog _ [.agg [.w64 a, .w64 b, .int .i64 n], .agg [.w64 c, .w64 d, .int .i64 m]] [] _ _
    rw [rcmp_run]
    simp only [decide_eq_true_eq, decide_eq_false_iff_not, beq_iff_eq, beq_eq_false_iff_ne, ne_eq]
    refine ⟨fun h => ⟨fun h1 => ?_, fun h1 => ⟨h, fun h2 => ?_, fun h2 => ?_⟩⟩, fun h => ⟨h, ?_⟩⟩
    all_goals
      congr 1
      unfold cmpP orI
    · rw [if_pos h]; unfold cmpI; rw [if_neg (by omega), if_pos h1]
    · rw [if_pos h]; unfold cmpI; rw [if_neg (by omega), if_neg h1]
    · rw [if_pos h, h]; unfold cmpI; rw [if_pos (by omega)]
    · rw [if_neg h]
  · exact hF.elim

end Go.Proofs.Ytfcjghgfanaipaa.L1
end

