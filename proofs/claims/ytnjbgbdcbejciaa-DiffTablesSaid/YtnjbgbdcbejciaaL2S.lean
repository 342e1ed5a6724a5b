/-
  Layer 2: contracts of the document's own Make, Match, Covers, Compare.
-/
import Derived.Test.YtnjbgbdcbejciaaL2a
namespace Go.Proofs.Ytnjbgbdcbejciaa.L1
open Go.Sx Go.Sx.M

def rmSt (a b c d : BitVec 64) (n : Int) (k : Int) : St :=
  ⟨[.any, .any, .ptr 0 0 0 true, .any, .lit (.bool false), .slice 2 0 128 false, .slice 3 0 128 false, .int .i64 k, .any, .any, .any, .any, .any, .any, .any, .any, .any, .any, .any, .any, .any, .any, .any, .any, .any, .any, .any, .any, .any],
   [some ⟨true, 77, 3, true, [.agg [.w64 a, .w64 b, .int .i64 n]]⟩, none, some ⟨true, 4, 1, true, bitsOf a b⟩, some ⟨true, 4, 1, true, bitsOf c d⟩]⟩

def rmM0 : Modes := ⟨[0, 0, 1, 0, 1, 1, 1, 2, 0, 0, 0, 0, 0, 0, 0, 0, 0, 0, 0, 0, 0, 0, 0, 0, 0, 0, 0, 0, 0], [0, 1, 2, 3], [1, 0, 1, 1], [], []⟩
def rmM : Modes := ⟨[0, 0, 1, 0, 1, 1, 1, 1, 0, 0, 0, 0, 0, 0, 0, 0, 0, 0, 0, 0, 0, 0, 0, 0, 0, 0, 0, 0, 0], [0, 1, 2, 3], [1, 0, 1, 1], [], []⟩

def rmI (a b c d : BitVec 64) (n : Int) (k : Int) : Prop := 0 ≤ k ∧ k ≤ clamp n ∧ ∀ i : Nat, (i : Int) < k → bitAt a b i = bitAt c d i

def rmH (a b c d : BitVec 64) (n : Int) : List Hint := [.linv _ 0 (rmSt a b c d n) (rmI a b c d n) (fun k => (200 - k).toNat) rmM0 rmM rmM (fun _ => []) fun k =>
  [.fork [.dy, .cell (.bool (bitAt a b k.toNat)), .dy, .cell (.bool (bitAt c d k.toNat)), .fork [] [.nw]] []]]

noncomputable def rmCs : List (FuncId × Sx.Spec) := [(82, genSpec [none] bitsF), (106, genSpec [none] nearF)]

noncomputable def rcCs : List (FuncId × Sx.Spec) := [(77, genSpec [none, none] matchF), (99, genSpec [none, none] cmpF)]

theorem rmatch_run (a b : BitVec 64) (n : Int) (c d : BitVec 64) (r : AV) : run rmCs Try.prog 77 [.agg [.w64 a, .w64 b, .int .i64 n], .agg [.w64 c, .w64 d]] [] (rmH a b c d n) (yields (.v r)) =
    ((St.mk [.any, .any, AV.ptr 0 0 0 true, .any, AV.lit (Value.bool false), AV.slice ((0 : Nat) + (1 : Nat) + (1 : Nat)) 0 (List.length (bitsOf a b)) false, AV.slice ((0 : Nat) + (1 : Nat) + (1 : Nat) + (1 : Nat)) 0 (List.length (bitsOf c d)) false, AV.int IntKind.i64 0, .any, .any, .any, .any, .any, .any, .any, .any, .any, .any, .any, .any, .any, .any, .any, .any, .any, .any, .any, .any, .any] [some (Blk.mk true 77 3 true [AV.agg [AV.w64 a, AV.w64 b, AV.int IntKind.i64 n]]), none, some (Blk.mk true (4 : TypeId) 1 true (bitsOf a b)), some (Blk.mk true (4 : TypeId) 1 true (bitsOf c d))] = rmSt a b c d n 0 ∧ rmI a b c d n 0) ∧ ∀ (p : Int), rmI a b c d n p → (Decidable.decide (p < clamp n) = true → ((0 : Int) ≤ p ∧ p < (↑(128 : Nat) : Int)) ∧ Blk.read Proofs.Try.prog (Blk.mk true (4 : TypeId) 1 true (bitsOf a b)) 4 ((0 : Nat) + Int.toNat p) 0 = some (AV.bool (bitAt a b (Int.toNat p))) ∧ ((0 : Int) ≤ p ∧ p < (↑(128 : Nat) : Int)) ∧ Blk.read Proofs.Try.prog (Blk.mk true (4 : TypeId) 1 true (bitsOf c d)) 4 ((0 : Nat) + Int.toNat p) 0 = some (AV.bool (bitAt c d (Int.toNat p))) ∧ ((!bitAt a b (Int.toNat p) == bitAt c d (Int.toNat p)) = true → AV.bool false = r) ∧ ((!bitAt a b (Int.toNat p) == bitAt c d (Int.toNat p)) = false → inRange IntKind.i64 (p + (1 : Int)) ∧ ∃ (p' : Int), St.mk [.any, .any, AV.ptr 0 0 0 true, .any, AV.lit (Value.bool false), AV.slice ((0 : Nat) + (1 : Nat) + (1 : Nat)) 0 128 false, AV.slice ((0 : Nat) + (1 : Nat) + (1 : Nat) + (1 : Nat)) 0 128 false, AV.int IntKind.i64 (p + (1 : Int)), .any, .any, .any, .any, .any, .any, .any, .any, .any, .any, .any, .any, .any, .any, .any, .any, .any, .any, .any, .any, .any] [some (Blk.mk true (77 : TypeId) 3 true [AV.agg [AV.w64 a, AV.w64 b, AV.int IntKind.i64 n]]), none, some (Blk.mk true (4 : TypeId) 1 true (bitsOf a b)), some (Blk.mk true (4 : TypeId) 1 true (bitsOf c d))] = rmSt a b c d n p' ∧ rmI a b c d n p' ∧ Int.toNat ((200 : Int) - p') < Int.toNat ((200 : Int) - p))) ∧ (Decidable.decide (p < clamp n) = false → AV.bool true = r)) := by kernel_rfl

theorem rcmp_run (a b : BitVec 64) (n : Int) (c d : BitVec 64) (m : Int) (r : AV) : run rcCs Try.prog 71 [.agg [.w64 a, .w64 b, .int .i64 n], .agg [.w64 c, .w64 d, .int .i64 m]] [] [.fork [.fork [] [.br true, .fork [] []]] [.br false]] (yields (.v r)) =
    (((cmpV (V a b) (V c d) == (0 : Int)) = true → (Decidable.decide (n < m) = true → AV.int IntKind.i64 (-1 : Int) = r) ∧ (Decidable.decide (n < m) = false → (cmpV (V a b) (V c d) == (0 : Int)) = true ∧ (Decidable.decide (n > m) = true → AV.int IntKind.i64 (1 : Int) = r) ∧ (Decidable.decide (n > m) = false → AV.int IntKind.i64 (cmpV (V a b) (V c d)) = r))) ∧ ((cmpV (V a b) (V c d) == (0 : Int)) = false → (cmpV (V a b) (V c d) == (0 : Int)) = false ∧ AV.int IntKind.i64 (cmpV (V a b) (V c d)) = r)) := by kernel_rfl

theorem rmCs_ok : ∀ e ∈ rmCs, SpecOK Try.prog e.1 e.2 := by
  intro e he
  simp only [rmCs, List.mem_cons, List.not_mem_nil, or_false] at he
  rcases he with rfl | rfl
  · exact bits_ok
  · exact near_ok

theorem rmatch_ok : SpecOK Try.prog 77 (genSpec [none, none] matchF) := by
  refine genSpec_ok (run_ok (l := rmCs) rmCs_ok mixed noNG) fun l R hF => ?_
  unfold matchF at hF
  split at hF
  · rename_i a b n c d
    refine ⟨_, hF, rfl, rmH a b c d n, ?_⟩
    show run rmCs Try.prog _ [.agg [.w64 a, .w64 b, .int .i64 n], .agg [.w64 c, .w64 d]] [] _ _
    rw [rmatch_run]
    have hc : 0 ≤ clamp n ∧ clamp n ≤ 128 := by unfold clamp; omega
    refine ⟨⟨rfl, by omega, by omega, fun i hi => by omega⟩, ?_⟩
    rintro k ⟨h0, h1, h2⟩
    refine ⟨fun hlt => ?_, fun hge => ?_⟩
    · have hk : k < clamp n := by simpa using hlt
      refine ⟨by omega, read_bits h0 (by omega) rfl, by omega, read_bits h0 (by omega) rfl, fun hb => ?_, fun hb => ⟨inR (by omega) (by omega), k + 1, rfl, ⟨by omega, by omega, fun i hi => ?_⟩, by omega⟩⟩
      · have : matchB a b n c d = false := by
          cases hm : matchB a b n c d with
          | false => rfl
          | true =>
            have := cut_iff.1 hm k.toNat (by omega) (by unfold clamp at hk; omega)
            simp [this] at hb
        rw [this]
      · rcases Int.lt_or_eq_of_le (show (i : Int) ≤ k by omega) with h | h
        · exact h2 i h
        · have e : i = k.toNat := by omega
          rw [e]; simpa using hb
    · have hk : k = clamp n := by simp only [decide_eq_false_iff_not] at hge; omega
      have : matchB a b n c d = true := cut_iff.2 fun i hi hn => h2 i (by rw [hk]; unfold clamp; omega)
      rw [this]
  · exact hF.elim

theorem mkW_clamp (n : Int) : mkW (clamp n) = mkW n ∧ mkW (clamp n - 64) = mkW (n - 64) :=
  ⟨mkW_congr fun i hi => by unfold clamp; omega, mkW_congr fun i hi => by unfold clamp; omega⟩

theorem rcCs_ok : ∀ e ∈ rcCs, SpecOK Try.prog e.1 e.2 := by
  intro e he
  simp only [rcCs, List.mem_cons, List.not_mem_nil, or_false] at he
  rcases he with rfl | rfl
  · exact rmatch_ok
  · exact cmp_ok

theorem rcmp_ok : SpecOK Try.prog 71 (genSpec [none, none] cmppF) := by
  refine genSpec_ok (run_ok (l := rcCs) rcCs_ok mixed noNG) fun l R hF => ?_
  unfold cmppF at hF
  split at hF
  · rename_i a b n c d m
    refine ⟨_, hF, rfl, [.fork [.fork [] [.br true, .fork [] []]] [.br false]], ?_⟩
    show run rcCs Try.prog _ [.agg [.w64 a, .w64 b, .int .i64 n], .agg [.w64 c, .w64 d, .int .i64 m]] [] _ _
    rw [rcmp_run]
    simp only [decide_eq_true_eq, decide_eq_false_iff_not, beq_iff_eq, beq_eq_false_iff_ne, ne_eq]
    refine ⟨fun h => ⟨fun h1 => ?_, fun h1 => ⟨h, fun h2 => ?_, fun h2 => ?_⟩⟩, fun h => ⟨h, ?_⟩⟩
    all_goals
      congr 1
      unfold cmpP orI
    · rw [if_pos h]; unfold cmpI; rw [if_neg (by omega), if_pos h1]
    · rw [if_pos h]; unfold cmpI; rw [if_neg (by omega), if_neg h1]
    · rw [if_pos h, h]; unfold cmpI; rw [if_pos (by omega)]
    · rw [if_neg h]
  · exact hF.elim

end Go.Proofs.Ytnjbgbdcbejciaa.L1
