/-
  The law AddrAlgebra: and spreads over or; what is turned twice is itself; one alone of the same is nothing. For every input, no condition.
-/
import Derived.Test.YtfodhjddnbgddaaL1FAlgebra
namespace Go.Proofs.Ytfodhjddnbgddaa.L1
open Go.Sx

theorem algebra_run (a0 a1 b0 b1 c0 c1 : BitVec 64) :
    run [(18, awakeSpec)] Try.prog 9 [.agg [.w64 a0, .w64 a1], .agg [.w64 b0, .w64 b1], .agg [.w64 c0, .w64 c1]] [] (List.replicate 20 (.br true)) isTrue =
      ((a0 &&& (b0 ||| c0) == a0 &&& b0 ||| a0 &&& c0 && a1 &&& (b1 ||| c1) == a1 &&& b1 ||| a1 &&& c1) = true ∧
       (~~~~~~a0 == a0 && ~~~~~~a1 == a1) = true ∧
       (a0 ^^^ a0 == 0#64 && a1 ^^^ a1 == 0#64) = true ∧
       (a0 ||| ~~~a0 == BitVec.ofNat 64 18446744073709551615 && a1 ||| ~~~a1 == BitVec.ofNat 64 18446744073709551615) = true ∧
       (a0 ^^^ b0 == a0 &&& ~~~b0 ||| ~~~a0 &&& b0 && a1 ^^^ b1 == a1 &&& ~~~b1 ||| ~~~a1 &&& b1) = true ∧ True ∧ true = true) := by
  kernel_rfl

theorem and_or (a b c : BitVec 64) : a &&& (b ||| c) = a &&& b ||| a &&& c := by
  apply BitVec.eq_of_getLsbD_eq; intro i hi; simp [Bool.and_or_distrib_left]
theorem or_not (a : BitVec 64) : a ||| ~~~a = BitVec.ofNat 64 18446744073709551615 := by
  rw [show BitVec.ofNat 64 18446744073709551615 = BitVec.allOnes 64 from by decide]
  apply BitVec.eq_of_getLsbD_eq; intro i hi
  rw [BitVec.getLsbD_allOnes, BitVec.getLsbD_or, BitVec.getLsbD_not]
  simp [hi]
theorem xor_eq (a b : BitVec 64) : a ^^^ b = a &&& ~~~b ||| ~~~a &&& b := by
  apply BitVec.eq_of_getLsbD_eq; intro i hi
  simp only [BitVec.getLsbD_xor, BitVec.getLsbD_or, BitVec.getLsbD_and, BitVec.getLsbD_not, hi, decide_true, Bool.true_and]
  cases a.getLsbD i <;> cases b.getLsbD i <;> rfl

theorem algebra_holds : Rows.AddrAlgebraSaid :=
  addrAlgebra_of fun a0 a1 b0 b1 c0 c1 w => addrAlgebra_call (run_ok (l := [(18, awakeSpec)]) (by simp [awake]) mixed noNG) a0 a1 b0 b1 c0 c1 (hs := List.replicate 20 (.br true)) (by
    rw [algebra_run]
    refine ⟨?_, ?_, ?_, ?_, ?_, trivial, rfl⟩
    · rw [and_or, and_or]; simp
    · simp
    · simp
    · rw [or_not, or_not]; simp
    · rw [xor_eq, xor_eq]; simp) w

#print axioms algebra_holds
end Go.Proofs.Ytfodhjddnbgddaa.L1
