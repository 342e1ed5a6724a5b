/-
  Layer 1: contracts of the program's Bit and With.
-/
import Derived.Test.YthhckkollnnfeaaL1Ref
namespace Go.Proofs.Ythhckkollnnfeaa.L1
open Go.Sx Go.Sx.M

def bitF : List Arg → (Res → Prop) → Prop
  | [.v (.agg [.w64 a, .w64 b]), .v (.int .i64 k)], R => R (.v (.bool (bitZ a b k)))
  | _, _ => False

def withF : List Arg → (Res → Prop) → Prop
  | [.v (.agg [.w64 a, .w64 b]), .v (.int .i64 k), .v (.bool c)], R => R (.v (.agg [.w64 (put a k c), .w64 (put b (k - 64) c)]))
  | _, _ => False

theorem bit_neg (a b : BitVec 64) (k : Int) (r : AV) : run [] Try.prog 32 [.agg [.w64 a, .w64 b], .int .i64 k] [] [.br false] (yields (.v r)) =
    (decide (0 ≤ k) = false ∧ AV.bool false = r) := by kernel_rfl
theorem bit_big (a b : BitVec 64) (k : Int) (r : AV) : run [] Try.prog 32 [.agg [.w64 a, .w64 b], .int .i64 k] [] [.br true, .br true] (yields (.v r)) =
    (decide (0 ≤ k) = true ∧ (!decide (k < 128)) = true ∧ AV.bool false = r) := by kernel_rfl
theorem bit_lo (a b : BitVec 64) (k : Int) (r : AV) : run [] Try.prog 32 [.agg [.w64 a, .w64 b], .int .i64 k] [] [.br true, .br false, .nw, .nw, .ix 0] (yields (.v r)) =
    (decide (0 ≤ k) = true ∧ (!decide (k < 128)) = false ∧ inRange .i64 (k.tdiv 64) ∧ inRange .i64 (63 - k.tmod 64) ∧ 0 ≤ 63 - k.tmod 64 ∧ k.tdiv 64 = ((0 : Nat) : Int) ∧
      AV.bool (a &&& one (63 - k.tmod 64).toNat != BitVec.ofInt 64 0) = r) := by kernel_rfl
theorem bit_hi (a b : BitVec 64) (k : Int) (r : AV) : run [] Try.prog 32 [.agg [.w64 a, .w64 b], .int .i64 k] [] [.br true, .br false, .nw, .nw, .ix 1] (yields (.v r)) =
    (decide (0 ≤ k) = true ∧ (!decide (k < 128)) = false ∧ inRange .i64 (k.tdiv 64) ∧ inRange .i64 (63 - k.tmod 64) ∧ 0 ≤ 63 - k.tmod 64 ∧ k.tdiv 64 = ((1 : Nat) : Int) ∧
      AV.bool (b &&& one (63 - k.tmod 64).toNat != BitVec.ofInt 64 0) = r) := by kernel_rfl

theorem with_neg (a b : BitVec 64) (k : Int) (c : Bool) (r : AV) : run [] Try.prog 31 [.agg [.w64 a, .w64 b], .int .i64 k, .bool c] [] [.br false] (yields (.v r)) =
    (decide (0 ≤ k) = false ∧ AV.agg [.w64 a, .w64 b] = r) := by kernel_rfl
theorem with_big (a b : BitVec 64) (k : Int) (c : Bool) (r : AV) : run [] Try.prog 31 [.agg [.w64 a, .w64 b], .int .i64 k, .bool c] [] [.br true, .br true] (yields (.v r)) =
    (decide (0 ≤ k) = true ∧ (!decide (k < 128)) = true ∧ AV.agg [.w64 a, .w64 b] = r) := by kernel_rfl
theorem with_lo_t (a b : BitVec 64) (k : Int) (r : AV) : run [] Try.prog 31 [.agg [.w64 a, .w64 b], .int .i64 k, .bool true] [] [.br true, .br false, .nw, .nw, .br true, .ix 0, .ix 0] (yields (.v r)) =
    (decide (0 ≤ k) = true ∧ (!decide (k < 128)) = false ∧ inRange .i64 (k.tdiv 64) ∧ inRange .i64 (63 - k.tmod 64) ∧ 0 ≤ 63 - k.tmod 64 ∧ true = true ∧ k.tdiv 64 = ((0 : Nat) : Int) ∧ k.tdiv 64 = ((0 : Nat) : Int) ∧
      AV.agg [.w64 (a ||| one (63 - k.tmod 64).toNat), .w64 b] = r) := by kernel_rfl
theorem with_lo_f (a b : BitVec 64) (k : Int) (r : AV) : run [] Try.prog 31 [.agg [.w64 a, .w64 b], .int .i64 k, .bool false] [] [.br true, .br false, .nw, .nw, .br false, .ix 0, .ix 0] (yields (.v r)) =
    (decide (0 ≤ k) = true ∧ (!decide (k < 128)) = false ∧ inRange .i64 (k.tdiv 64) ∧ inRange .i64 (63 - k.tmod 64) ∧ 0 ≤ 63 - k.tmod 64 ∧ false = false ∧ k.tdiv 64 = ((0 : Nat) : Int) ∧ k.tdiv 64 = ((0 : Nat) : Int) ∧
      AV.agg [.w64 (a &&& ~~~one (63 - k.tmod 64).toNat), .w64 b] = r) := by kernel_rfl
theorem with_hi_t (a b : BitVec 64) (k : Int) (r : AV) : run [] Try.prog 31 [.agg [.w64 a, .w64 b], .int .i64 k, .bool true] [] [.br true, .br false, .nw, .nw, .br true, .ix 1, .ix 1] (yields (.v r)) =
    (decide (0 ≤ k) = true ∧ (!decide (k < 128)) = false ∧ inRange .i64 (k.tdiv 64) ∧ inRange .i64 (63 - k.tmod 64) ∧ 0 ≤ 63 - k.tmod 64 ∧ true = true ∧ k.tdiv 64 = ((1 : Nat) : Int) ∧ k.tdiv 64 = ((1 : Nat) : Int) ∧
      AV.agg [.w64 a, .w64 (b ||| one (63 - k.tmod 64).toNat)] = r) := by kernel_rfl
theorem with_hi_f (a b : BitVec 64) (k : Int) (r : AV) : run [] Try.prog 31 [.agg [.w64 a, .w64 b], .int .i64 k, .bool false] [] [.br true, .br false, .nw, .nw, .br false, .ix 1, .ix 1] (yields (.v r)) =
    (decide (0 ≤ k) = true ∧ (!decide (k < 128)) = false ∧ inRange .i64 (k.tdiv 64) ∧ inRange .i64 (63 - k.tmod 64) ∧ 0 ≤ 63 - k.tmod 64 ∧ false = false ∧ k.tdiv 64 = ((1 : Nat) : Int) ∧ k.tdiv 64 = ((1 : Nat) : Int) ∧
      AV.agg [.w64 a, .w64 (b &&& ~~~one (63 - k.tmod 64).toNat)] = r) := by kernel_rfl

theorem mod_eq {k : Int} (h0 : 0 ≤ k) : k.tmod 64 = k % 64 := Int.tmod_eq_emod_of_nonneg h0
theorem div_eq {k : Int} (h0 : 0 ≤ k) : k.tdiv 64 = k / 64 := Int.tdiv_eq_ediv_of_nonneg h0

theorem bit_ok : SpecOK Try.prog 32 (genSpec [none, none] bitF) := by
  refine genSpec_ok none_ok fun l R hF => ?_
  unfold bitF at hF
  split at hF
  · rename_i a b k
    refine ⟨_, hF, rfl, ?_⟩
    by_cases h0 : 0 ≤ k
    · by_cases h1 : k < 128
      · have e1 : inRange .i64 (k.tdiv 64) := by rw [div_eq h0]; exact inR (by omega) (by omega)
        have e2 : inRange .i64 (63 - k.tmod 64) := by rw [mod_eq h0]; exact inR (by omega) (by omega)
        have e3 : 0 ≤ 63 - k.tmod 64 := by rw [mod_eq h0]; omega
        by_cases h2 : k < 64
        · refine ⟨[.br true, .br false, .nw, .nw, .ix 0], ?_⟩
          show run [] Try.prog _ [.agg [.w64 a, .w64 b], .int .i64 k] [] _ _
          rw [bit_lo]
          refine ⟨by simpa using h0, by simpa using h1, e1, e2, e3, by rw [div_eq h0]; omega, ?_⟩
          congr 1
          rw [bitZ_lo h0 h2, and_one (by rw [mod_eq h0]; omega), BitVec.getMsbD, mod_eq h0]
          rw [show decide (k.toNat < 64) = true from by simp; omega, Bool.true_and]
          congr 1; omega
        · refine ⟨[.br true, .br false, .nw, .nw, .ix 1], ?_⟩
          show run [] Try.prog _ [.agg [.w64 a, .w64 b], .int .i64 k] [] _ _
          rw [bit_hi]
          refine ⟨by simpa using h0, by simpa using h1, e1, e2, e3, by rw [div_eq h0]; omega, ?_⟩
          congr 1
          rw [bitZ_hi (by omega) h1, and_one (by rw [mod_eq h0]; omega), BitVec.getMsbD, mod_eq h0]
          rw [show decide (k.toNat - 64 < 64) = true from by simp; omega, Bool.true_and]
          congr 1; omega
      · refine ⟨[.br true, .br true], ?_⟩
        show run [] Try.prog _ [.agg [.w64 a, .w64 b], .int .i64 k] [] _ _
        rw [bit_big]
        exact ⟨by simpa using h0, by simpa using h1, by rw [bitZ_out (by omega)]⟩
    · refine ⟨[.br false], ?_⟩
      show run [] Try.prog _ [.agg [.w64 a, .w64 b], .int .i64 k] [] _ _
      rw [bit_neg]
      exact ⟨by simpa using h0, by rw [bitZ_out (by omega)]⟩
  · exact hF.elim

theorem with_ok : SpecOK Try.prog 31 (genSpec [none, none, none] withF) := by
  refine genSpec_ok none_ok fun l R hF => ?_
  unfold withF at hF
  split at hF
  · rename_i a b k c
    refine ⟨_, hF, rfl, ?_⟩
    by_cases h0 : 0 ≤ k
    · by_cases h1 : k < 128
      · have e1 : inRange .i64 (k.tdiv 64) := by rw [div_eq h0]; exact inR (by omega) (by omega)
        have e2 : inRange .i64 (63 - k.tmod 64) := by rw [mod_eq h0]; exact inR (by omega) (by omega)
        have e3 : 0 ≤ 63 - k.tmod 64 := by rw [mod_eq h0]; omega
        by_cases h2 : k < 64
        · have e4 : (63 - k.tmod 64).toNat = 63 - k.toNat := by rw [mod_eq h0]; omega
          rw [put_in h0 h2, put_out (by omega)]
          cases c
          · refine ⟨[.br true, .br false, .nw, .nw, .br false, .ix 0, .ix 0], ?_⟩
            show run [] Try.prog _ [.agg [.w64 a, .w64 b], .int .i64 k, .bool _] [] _ _
            rw [with_lo_f]
            refine ⟨by simpa using h0, by simpa using h1, e1, e2, e3, rfl, by rw [div_eq h0]; omega, by rw [div_eq h0]; omega, ?_⟩
            rw [e4]
          · refine ⟨[.br true, .br false, .nw, .nw, .br true, .ix 0, .ix 0], ?_⟩
            show run [] Try.prog _ [.agg [.w64 a, .w64 b], .int .i64 k, .bool _] [] _ _
            rw [with_lo_t]
            refine ⟨by simpa using h0, by simpa using h1, e1, e2, e3, rfl, by rw [div_eq h0]; omega, by rw [div_eq h0]; omega, ?_⟩
            rw [e4]
        · have e4 : (63 - k.tmod 64).toNat = 63 - (k - 64).toNat := by rw [mod_eq h0]; omega
          rw [put_out (a := a) (by omega), put_in (by omega) (by omega)]
          cases c
          · refine ⟨[.br true, .br false, .nw, .nw, .br false, .ix 1, .ix 1], ?_⟩
            show run [] Try.prog _ [.agg [.w64 a, .w64 b], .int .i64 k, .bool _] [] _ _
            rw [with_hi_f]
            refine ⟨by simpa using h0, by simpa using h1, e1, e2, e3, rfl, by rw [div_eq h0]; omega, by rw [div_eq h0]; omega, ?_⟩
            rw [e4]
          · refine ⟨[.br true, .br false, .nw, .nw, .br true, .ix 1, .ix 1], ?_⟩
            show run [] Try.prog _ [.agg [.w64 a, .w64 b], .int .i64 k, .bool _] [] _ _
            rw [with_hi_t]
            refine ⟨by simpa using h0, by simpa using h1, e1, e2, e3, rfl, by rw [div_eq h0]; omega, by rw [div_eq h0]; omega, ?_⟩
            rw [e4]
      · refine ⟨[.br true, .br true], ?_⟩
        show run [] Try.prog _ [.agg [.w64 a, .w64 b], .int .i64 k, .bool _] [] _ _
        rw [with_big]
        exact ⟨by simpa using h0, by simpa using h1, by rw [put_out (by omega), put_out (by omega)]⟩
    · refine ⟨[.br false], ?_⟩
      show run [] Try.prog _ [.agg [.w64 a, .w64 b], .int .i64 k, .bool _] [] _ _
      rw [with_neg]
      exact ⟨by simpa using h0, by rw [put_out (by omega), put_out (by omega)]⟩
  · exact hF.elim

end Go.Proofs.Ythhckkollnnfeaa.L1
