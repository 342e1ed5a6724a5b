/-
  Texts in one: L2A L2R L2Join L2B L2M.
-/
import Derived.Test.YtnjbgbdcbejciaaL1a

section
/-
  Layer 2: contracts of the program's and the document's calls on prefixes.
-/
namespace Go.Proofs.Ytnjbgbdcbejciaa.L1
open Go.Sx Go.Sx.M

/-- May a prefix be? -/
def rightB (w : Int) (a b : BitVec 64) (n : Int) : Bool := (w == 32 || w == 128) && (decide (0 ≤ n) && (decide (n ≤ w) && (a &&& mkW n == a && b &&& mkW (n - 64) == b)))

/-- Do the first n bits agree? -/
def matchB (a b : BitVec 64) (n : Int) (c d : BitVec 64) : Bool := a &&& mkW n == c &&& mkW n && b &&& mkW (n - 64) == d &&& mkW (n - 64)

def makeF : List Arg → (Res → Prop) → Prop
  | [.v (.agg [.w64 a, .w64 b]), .v (.int .i64 n)], R => R (.v (.agg [.w64 (a &&& mkW n), .w64 (b &&& mkW (n - 64)), .int .i64 (clamp n)]))
  | _, _ => False

def rightF : List Arg → (Res → Prop) → Prop
  | [.v (.int .i64 w), .v (.agg [.w64 a, .w64 b, .int .i64 n])], R => R (.v (.bool (rightB w a b n)))
  | _, _ => False

def matchF : List Arg → (Res → Prop) → Prop
  | [.v (.agg [.w64 a, .w64 b, .int .i64 n]), .v (.agg [.w64 c, .w64 d])], R => R (.v (.bool (matchB a b n c d)))
  | _, _ => False

def coversF : List Arg → (Res → Prop) → Prop
  | [.v (.agg [.w64 a, .w64 b, .int .i64 n]), .v (.agg [.w64 c, .w64 d, .int .i64 m])], R => R (.v (.bool (decide (n ≤ m) && matchB a b n c d)))
  | _, _ => False

noncomputable def pmakeCs : List (FuncId × Sx.Spec) := [(72, genSpec [none, none] cutF)]

noncomputable def pcoversCs : List (FuncId × Sx.Spec) := [(107, genSpec [none, none] matchF)]

theorem pmake_run (a b : BitVec 64) (n : Int) (r : AV) : run pmakeCs Try.prog 37 [.agg [.w64 a, .w64 b], .int .i64 n] [] [] (yields (.v r)) =
    (Go.Sx.AV.agg (List.map Go.Sx.canon1 (List.take (3 : Nat) (List.drop (0 : Nat) [Go.Sx.AV.w64 (a &&& Go.Proofs.Ytnjbgbdcbejciaa.L1.mkW n), Go.Sx.AV.w64 (b &&& Go.Proofs.Ytnjbgbdcbejciaa.L1.mkW (n - (64 : Int))), Go.Sx.AV.int Go.IntKind.i64 (if (128 : Int) < if (0 : Int) > n then (0 : Int) else n then (128 : Int) else if (0 : Int) > n then (0 : Int) else n)]))) = r) := by kernel_rfl

theorem pmatch_run (a b : BitVec 64) (n : Int) (c d : BitVec 64) (r : AV) : run pmakeCs Try.prog 107 [.agg [.w64 a, .w64 b, .int .i64 n], .agg [.w64 c, .w64 d]] [] [] (yields (.v r)) =
    (Go.Sx.AV.bool (c &&& Go.Proofs.Ytnjbgbdcbejciaa.L1.mkW n == a &&& Go.Proofs.Ytnjbgbdcbejciaa.L1.mkW n && d &&& Go.Proofs.Ytnjbgbdcbejciaa.L1.mkW (n - (64 : Int)) == b &&& Go.Proofs.Ytnjbgbdcbejciaa.L1.mkW (n - (64 : Int))) = r) := by kernel_rfl

theorem pcovers_run (a b : BitVec 64) (n : Int) (c d : BitVec 64) (m : Int) (r : AV) : run pcoversCs Try.prog 81 [.agg [.w64 a, .w64 b, .int .i64 n], .agg [.w64 c, .w64 d, .int .i64 m]] [] [.fork [] []] (yields (.v r)) =
    ((Decidable.decide (m ≥ n) = Bool.true → Go.Sx.AV.bool (Go.Proofs.Ytnjbgbdcbejciaa.L1.matchB a b n c d) = r) ∧ (Decidable.decide (m ≥ n) = Bool.false → Go.Sx.AV.bool Bool.false = r)) := by kernel_rfl

theorem pmakeCs_ok : ∀ e ∈ pmakeCs, SpecOK Try.prog e.1 e.2 := by
  intro e he
  simp only [pmakeCs, List.mem_cons, List.not_mem_nil, or_false] at he
  rcases he with rfl
  exact cut_ok

theorem pmake_ok : SpecOK Try.prog 37 (genSpec [none, none] makeF) := by
  refine genSpec_ok (run_ok (l := pmakeCs) pmakeCs_ok mixed noNG) fun l R hF => ?_
  unfold makeF at hF
  split at hF
  · rename_i a b n
    refine ⟨_, hF, rfl, [], ?_⟩
    show run pmakeCs Try.prog _ [.agg [.w64 a, .w64 b], .int .i64 n] [] _ _
    rw [pmake_run, clamp_eq]
    rfl
  · exact hF.elim

theorem clamp_iff {n : Int} : clamp n = n ↔ 0 ≤ n ∧ n ≤ 128 := by unfold clamp; omega

theorem matchB_comm {a b c d : BitVec 64} {n : Int} : matchB a b n c d = matchB c d n a b := by
  unfold matchB
  rw [Bool.eq_iff_iff]
  simp only [Bool.and_eq_true, beq_iff_eq]
  exact ⟨fun h => ⟨h.1.symm, h.2.symm⟩, fun h => ⟨h.1.symm, h.2.symm⟩⟩

theorem pmatch_ok : SpecOK Try.prog 107 (genSpec [none, none] matchF) := by
  refine genSpec_ok (run_ok (l := pmakeCs) pmakeCs_ok mixed noNG) fun l R hF => ?_
  unfold matchF at hF
  split at hF
  · rename_i a b n c d
    refine ⟨_, hF, rfl, [], ?_⟩
    show run pmakeCs Try.prog _ [.agg [.w64 a, .w64 b, .int .i64 n], .agg [.w64 c, .w64 d]] [] _ _
    rw [pmatch_run, matchB_comm]
    rfl
  · exact hF.elim

theorem pcoversCs_ok : ∀ e ∈ pcoversCs, SpecOK Try.prog e.1 e.2 := by
  intro e he
  simp only [pcoversCs, List.mem_cons, List.not_mem_nil, or_false] at he
  rcases he with rfl
  exact pmatch_ok

theorem pcovers_ok : SpecOK Try.prog 81 (genSpec [none, none] coversF) := by
  refine genSpec_ok (run_ok (l := pcoversCs) pcoversCs_ok mixed noNG) fun l R hF => ?_
  unfold coversF at hF
  split at hF
  · rename_i a b n c d m
    refine ⟨_, hF, rfl, [.fork [] []], ?_⟩
    show run pcoversCs Try.prog _ [.agg [.w64 a, .w64 b, .int .i64 n], .agg [.w64 c, .w64 d, .int .i64 m]] [] _ _
    rw [pcovers_run]
    refine ⟨fun h => ?_, fun h => ?_⟩
    · rw [show decide (n ≤ m) = true from h, Bool.true_and]
    · rw [show decide (n ≤ m) = false from h, Bool.false_and]
  · exact hF.elim

end Go.Proofs.Ytnjbgbdcbejciaa.L1
end

section
/-
  Layer 2: contracts of the document's own functions on prefixes.
-/
namespace Go.Proofs.Ytnjbgbdcbejciaa.L1
open Go.Sx Go.Sx.M

def nearF : List Arg → (Res → Prop) → Prop
  | [.v (.int .i64 n)], R => R (.v (.int .i64 (clamp n)))
  | _, _ => False

def rrSt (_ : Int) (a b : BitVec 64) (k : Int) : St :=
  ⟨[.any, .any, .any, .any, .lit (.bool false), .slice 1 0 128 false, .int .i64 k, .any, .any, .any, .any, .any, .any, .any, .any, .any, .any, .any, .any, .any, .any, .any, .any, .any, .any, .any, .any, .any, .any, .any, .any, .any, .any, .any, .any, .any, .any], [none, some ⟨true, 4, 1, true, bitsOf a b⟩]⟩

def rrM : Modes := ⟨[0, 0, 0, 0, 1, 1, 1, 0, 0, 0, 0, 0, 0, 0, 0, 0, 0, 0, 0, 0, 0, 0, 0, 0, 0, 0, 0, 0, 0, 0, 0, 0, 0, 0, 0, 0, 0], [0, 1], [0, 1], [], []⟩

def rrI (a b : BitVec 64) (n : Int) (k : Int) : Prop := n ≤ k ∧ 0 ≤ k ∧ k ≤ 128 ∧ ∀ i : Nat, n ≤ (i : Int) → (i : Int) < k → bitAt a b i = false

def rrL (w : Int) (a b : BitVec 64) (n : Int) : List Hint := [.linv _ n (rrSt w a b) (rrI a b n) (fun k => (200 - k).toNat) rrM rrM rrM (fun _ => []) fun k =>
  [.fork [.dy, .cell (.bool (bitAt a b k.toNat)), .fork [] [.nw]] []]]

def rrH (w : Int) (a b : BitVec 64) (n : Int) : List Hint :=
  [.fork [.fork [] [.fork [] [.fork [] (rrL w a b n)]]] [.fork [] [.fork [] (rrL w a b n)]]]

noncomputable def bitsCs0 : List (FuncId × Sx.Spec) := [(82, genSpec [none] bitsF)]

theorem rright_run (w : Int) (a b : BitVec 64) (n : Int) (r : AV) : run bitsCs0 Try.prog 101 [.int .i64 w, .agg [.w64 a, .w64 b, .int .i64 n]] [] (rrH w a b n) (yields (.v r)) =
    (((w != (32 : Int)) = true → ((w != (128 : Int)) = true → AV.bool false = r) ∧ ((w != (128 : Int)) = false → (Decidable.decide (n < (0 : Int)) = true → AV.bool false = r) ∧ (Decidable.decide (n < (0 : Int)) = false → (Decidable.decide (n > w) = true → AV.bool false = r) ∧ (Decidable.decide (n > w) = false → (St.mk [.any, .any, .any, .any, AV.lit (Value.bool false), AV.slice ((0 : Nat) + (1 : Nat)) 0 (List.length (bitsOf a b)) false, AV.int IntKind.i64 n, .any, .any, .any, .any, .any, .any, .any, .any, .any, .any, .any, .any, .any, .any, .any, .any, .any, .any, .any, .any, .any, .any, .any, .any, .any, .any, .any, .any, .any, .any] [none, some (Blk.mk true (4 : TypeId) 1 true (bitsOf a b))] = rrSt w a b n ∧ rrI a b n n) ∧ ∀ (p : Int), rrI a b n p → (Decidable.decide (p < (128 : Int)) = true → ((0 : Int) ≤ p ∧ p < (↑(128 : Nat) : Int)) ∧ Blk.read Proofs.Try.prog (Blk.mk true (4 : TypeId) 1 true (bitsOf a b)) 4 ((0 : Nat) + Int.toNat p) 0 = some (AV.bool (bitAt a b (Int.toNat p))) ∧ (bitAt a b (Int.toNat p) = true → AV.bool false = r) ∧ (bitAt a b (Int.toNat p) = false → inRange IntKind.i64 (p + (1 : Int)) ∧ ∃ (p' : Int), St.mk [.any, .any, .any, .any, AV.lit (Value.bool false), AV.slice ((0 : Nat) + (1 : Nat)) 0 128 false, AV.int IntKind.i64 (p + (1 : Int)), .any, .any, .any, .any, .any, .any, .any, .any, .any, .any, .any, .any, .any, .any, .any, .any, .any, .any, .any, .any, .any, .any, .any, .any, .any, .any, .any, .any, .any, .any] [none, some (Blk.mk true (4 : TypeId) 1 true (bitsOf a b))] = rrSt w a b p' ∧ rrI a b n p' ∧ Int.toNat ((200 : Int) - p') < Int.toNat ((200 : Int) - p))) ∧ (Decidable.decide (p < (128 : Int)) = false → AV.bool true = r))))) ∧ ((w != (32 : Int)) = false → (Decidable.decide (n < (0 : Int)) = true → AV.bool false = r) ∧ (Decidable.decide (n < (0 : Int)) = false → (Decidable.decide (n > w) = true → AV.bool false = r) ∧ (Decidable.decide (n > w) = false → (St.mk [.any, .any, .any, .any, AV.lit (Value.bool false), AV.slice ((0 : Nat) + (1 : Nat)) 0 (List.length (bitsOf a b)) false, AV.int IntKind.i64 n, .any, .any, .any, .any, .any, .any, .any, .any, .any, .any, .any, .any, .any, .any, .any, .any, .any, .any, .any, .any, .any, .any, .any, .any, .any, .any, .any, .any, .any, .any] [none, some (Blk.mk true (4 : TypeId) 1 true (bitsOf a b))] = rrSt w a b n ∧ rrI a b n n) ∧ ∀ (p : Int), rrI a b n p → (Decidable.decide (p < (128 : Int)) = true → ((0 : Int) ≤ p ∧ p < (↑(128 : Nat) : Int)) ∧ Blk.read Proofs.Try.prog (Blk.mk true (4 : TypeId) 1 true (bitsOf a b)) 4 ((0 : Nat) + Int.toNat p) 0 = some (AV.bool (bitAt a b (Int.toNat p))) ∧ (bitAt a b (Int.toNat p) = true → AV.bool false = r) ∧ (bitAt a b (Int.toNat p) = false → inRange IntKind.i64 (p + (1 : Int)) ∧ ∃ (p' : Int), St.mk [.any, .any, .any, .any, AV.lit (Value.bool false), AV.slice ((0 : Nat) + (1 : Nat)) 0 128 false, AV.int IntKind.i64 (p + (1 : Int)), .any, .any, .any, .any, .any, .any, .any, .any, .any, .any, .any, .any, .any, .any, .any, .any, .any, .any, .any, .any, .any, .any, .any, .any, .any, .any, .any, .any, .any, .any] [none, some (Blk.mk true (4 : TypeId) 1 true (bitsOf a b))] = rrSt w a b p' ∧ rrI a b n p' ∧ Int.toNat ((200 : Int) - p') < Int.toNat ((200 : Int) - p))) ∧ (Decidable.decide (p < (128 : Int)) = false → AV.bool true = r))))) := by kernel_rfl

theorem near_run (n : Int) (r : AV) : run [] Try.prog 106 [.int .i64 n] [] [.fork [] [.fork [] []]] (yields (.v r)) =
    ((Decidable.decide (n < (0 : Int)) = true → AV.int IntKind.i64 (0 : Int) = r) ∧ (Decidable.decide (n < (0 : Int)) = false → (Decidable.decide (n > (128 : Int)) = true → AV.int IntKind.i64 (128 : Int) = r) ∧ (Decidable.decide (n > (128 : Int)) = false → AV.int IntKind.i64 n = r))) := by kernel_rfl

theorem bitsCs0_ok : ∀ e ∈ bitsCs0, SpecOK Try.prog e.1 e.2 := by
  intro e he
  simp only [bitsCs0, List.mem_cons, List.not_mem_nil, or_false] at he
  rcases he with rfl
  exact bits_ok

theorem rright_ok : SpecOK Try.prog 101 (genSpec [none, none] rightF) := by
  refine genSpec_ok (run_ok (l := bitsCs0) bitsCs0_ok mixed noNG) fun l R hF => ?_
  unfold rightF at hF
  split at hF
  · rename_i w a b n
    refine ⟨_, hF, rfl, rrH w a b n, ?_⟩
    show run bitsCs0 Try.prog _ [.int .i64 w, .agg [.w64 a, .w64 b, .int .i64 n]] [] _ _
    rw [rright_run]
    have hL : (w = 32 ∨ w = 128) → 0 ≤ n → n ≤ w → rrI a b n n ∧ (∀ k, rrI a b n k → k < 128 → bitAt a b k.toNat = true → rightB w a b n = false) ∧ (∀ k, rrI a b n k → k < 128 → bitAt a b k.toNat = false → rrI a b n (k + 1)) ∧ ∀ k, rrI a b n k → ¬ k < 128 → rightB w a b n = true := by
      intro hw h0 hn
      refine ⟨⟨by omega, by omega, by omega, fun i h1 h2 => by omega⟩, fun k ⟨h1, h2, h3, h4⟩ hk hb => ?_, fun k ⟨h1, h2, h3, h4⟩ hk hb => ⟨by omega, by omega, by omega, fun i h5 h6 => ?_⟩, fun k ⟨h1, h2, h3, h4⟩ hk => ?_⟩
      · cases hr : rightB w a b n with
        | false => rfl
        | true =>
          unfold rightB at hr
          simp only [Bool.and_eq_true] at hr
          have := cut_self.1 (by simpa using hr.2.2.2) k.toNat (by omega) (by omega)
          rw [this] at hb; cases hb
      · rcases Int.lt_or_eq_of_le (show (i : Int) ≤ k from by omega) with h | h
        · exact h4 i h5 h
        · rw [show i = k.toNat from by omega]; exact hb
      · unfold rightB
        rw [cut_self.2 fun i hi h => h4 i h (by omega), decide_eq_true h0, decide_eq_true hn]
        rcases hw with rfl | rfl <;> rfl
    have bad : ¬ ((w = 32 ∨ w = 128) ∧ 0 ≤ n ∧ n ≤ w) → AV.bool false = AV.bool (rightB w a b n) := by
      intro h
      cases hr : rightB w a b n with
      | false => rfl
      | true =>
        unfold rightB at hr
        simp only [Bool.and_eq_true, Bool.or_eq_true, beq_iff_eq, decide_eq_true_eq] at hr
        exact absurd ⟨hr.1, hr.2.1, hr.2.2.1⟩ h
    refine ⟨fun a1 => ⟨fun a2 => bad ?_, fun a2 => ⟨fun a3 => bad ?_, fun a3 => ⟨fun a4 => bad ?_, fun a4 => ?_⟩⟩⟩, fun a1 => ⟨fun a3 => bad ?_, fun a3 => ⟨fun a4 => bad ?_, fun a4 => ?_⟩⟩⟩
    all_goals
      simp only [bne_iff_ne, ne_eq, decide_eq_true_eq, decide_eq_false_iff_not, bne_eq_false_iff_eq] at *
    · omega
    · omega
    · omega
    · obtain ⟨l0, l1, l2, l3⟩ := hL (by omega) (by omega) (by omega)
      refine ⟨⟨rfl, l0⟩, fun k hk => ⟨fun hlt => ⟨⟨hk.2.1, by omega⟩, read_bits hk.2.1 (by omega) rfl, fun hb => by rw [l1 k hk hlt hb], fun hb => ⟨inR (by have := hk.2.1; omega) (by omega), k + 1, rfl, l2 k hk hlt hb, by omega⟩⟩, fun hge => by rw [l3 k hk hge]⟩⟩
    · omega
    · omega
    · obtain ⟨l0, l1, l2, l3⟩ := hL (by omega) (by omega) (by omega)
      refine ⟨⟨rfl, l0⟩, fun k hk => ⟨fun hlt => ⟨⟨hk.2.1, by omega⟩, read_bits hk.2.1 (by omega) rfl, fun hb => by rw [l1 k hk hlt hb], fun hb => ⟨inR (by have := hk.2.1; omega) (by omega), k + 1, rfl, l2 k hk hlt hb, by omega⟩⟩, fun hge => by rw [l3 k hk hge]⟩⟩
  · exact hF.elim

theorem near_ok : SpecOK Try.prog 106 (genSpec [none] nearF) := by
  refine genSpec_ok none_ok fun l R hF => ?_
  unfold nearF at hF
  split at hF
  · rename_i n
    refine ⟨_, hF, rfl, [.fork [] [.fork [] []]], ?_⟩
    show run [] Try.prog _ [.int .i64 n] [] _ _
    rw [near_run]
    simp only [decide_eq_true_eq, decide_eq_false_iff_not]
    refine ⟨fun h => ?_, fun h => ⟨fun h1 => ?_, fun h1 => ?_⟩⟩
    all_goals
      congr 1
      unfold clamp
      omega
  · exact hF.elim

end Go.Proofs.Ytnjbgbdcbejciaa.L1
end

section
/-
  Layer 2: the contract of Join.
-/
namespace Go.Proofs.Ytnjbgbdcbejciaa.L1
open Go.Sx Go.Sx.M

end Go.Proofs.Ytnjbgbdcbejciaa.L1
end

section
/-
  Layer 2: contracts of Last, Join, Compare, Parent, Sibling, Of.
-/
namespace Go.Proofs.Ytnjbgbdcbejciaa.L1
open Go.Sx Go.Sx.M

/-- Which of two numbers is the greater one. -/
def cmpI (m n : Int) : Int := if m = n then 0 else if m < n then -1 else 1

def orI (m n : Int) : Int := if m = 0 then n else m

/-- The order of two prefixes. -/
def cmpP (a b : BitVec 64) (n : Int) (c d : BitVec 64) (m : Int) : Int := orI (cmpV (V a b) (V c d)) (cmpI n m)

def cmppF : List Arg → (Res → Prop) → Prop
  | [.v (.agg [.w64 a, .w64 b, .int .i64 n]), .v (.agg [.w64 c, .w64 d, .int .i64 m])], R => R (.v (.int .i64 (cmpP a b n c d m)))
  | _, _ => False

end Go.Proofs.Ytnjbgbdcbejciaa.L1
end

section
/-
  Layer 2: what prefixes match, by their bits. Plain mathematics over the contracts' own terms.
-/
namespace Go.Proofs.Ytnjbgbdcbejciaa.L1
open Go.Sx Go.Sx.M

theorem match_iff {a b c d : BitVec 64} {n : Int} : matchB a b n c d = true ↔ ∀ i : Nat, i < 128 → (i : Int) < n → bitAt a b i = bitAt c d i := cut_iff

theorem right_iff {w : Int} {a b : BitVec 64} {n : Int} : rightB w a b n = true ↔ (w = 32 ∨ w = 128) ∧ 0 ≤ n ∧ n ≤ w ∧ ∀ i : Nat, i < 128 → n ≤ (i : Int) → bitAt a b i = false := by
  unfold rightB
  rw [Bool.and_eq_true, Bool.and_eq_true, Bool.and_eq_true, Bool.or_eq_true, beq_iff_eq, beq_iff_eq, decide_eq_true_eq, decide_eq_true_eq, cut_self]

theorem V_sub {a b c d : BitVec 64} (h : ∀ i : Nat, i < 128 → bitAt a b i = true → bitAt c d i = true) : V a b ≤ V c d := by
  have hs := com_spec (bitAt a b) (bitAt c d)
  by_cases h128 : com (bitAt a b) (bitAt c d) = 128
  · obtain ⟨rfl, rfl⟩ := com_eq.1 h128
    exact Nat.le_refl _
  · have hlt : com (bitAt a b) (bitAt c d) < 128 := by have := hs.le; omega
    have ho := hs.other hlt
    have hh := h _ hlt
    cases ha : bitAt a b (com (bitAt a b) (bitAt c d)) with
    | true => rw [ha, hh ha] at ho; exact absurd rfl ho
    | false =>
      cases hc : bitAt c d (com (bitAt a b) (bitAt c d)) with
      | false => rw [ha, hc] at ho; exact absurd rfl ho
      | true => exact Nat.le_of_lt (V_less hlt hs.same ha hc)

theorem cmpP_zero {a b : BitVec 64} {n : Int} {c d : BitVec 64} {m : Int} : cmpP a b n c d m = 0 ↔ a = c ∧ b = d ∧ n = m := by
  have h : cmpV (V a b) (V c d) = 0 ↔ a = c ∧ b = d := by
    rw [← V_inj]; unfold cmpV; split
    · simp [*]
    · split <;> simp [*]
  have h2 : cmpI n m = 0 ↔ n = m := by
    unfold cmpI; split
    · simp [*]
    · split <;> simp [*]
  unfold cmpP orI
  by_cases h3 : cmpV (V a b) (V c d) = 0
  · rw [if_pos h3, h2]
    obtain ⟨e1, e2⟩ := h.1 h3
    exact ⟨fun h => ⟨e1, e2, h⟩, fun h => h.2.2⟩
  · rw [if_neg h3]
    exact ⟨fun h4 => absurd h4 h3, fun h4 => absurd (h.2 ⟨h4.1, h4.2.1⟩) h3⟩

end Go.Proofs.Ytnjbgbdcbejciaa.L1
end

