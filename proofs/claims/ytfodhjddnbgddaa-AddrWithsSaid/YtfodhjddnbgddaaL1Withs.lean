/-
  The law AddrWiths: a bit that was put is there, and no other one has changed; put back, it is the address.
-/
import Derived.Test.YtfodhjddnbgddaaL1FWiths
import Derived.Test.YtfodhjddnbgddaaL1Bit
import Derived.Test.YtfodhjddnbgddaaL1Ones
namespace Go.Proofs.Ytfodhjddnbgddaa.L1
open Go.Sx Go.Sx.M

noncomputable def withsCs : List (FuncId × Sx.Spec) := [(18, awakeSpec), (19, genSpec withF), (20, genSpec bitF), (31, genSpec onesF)]

theorem withs_neg (a b : BitVec 64) (k : Int) (c : Bool) : run withsCs Try.prog 11 [.agg [.w64 a, .w64 b], .int .i64 k, .bool c] [] [.br true, .br true] isTrue =
    (decide (k < 0) = true ∧ (put a k c == a && put b (k - 64) c == b) = true ∧ True ∧ true = true) := by kernel_rfl
theorem withs_big (a b : BitVec 64) (k : Int) (c : Bool) : run withsCs Try.prog 11 [.agg [.w64 a, .w64 b], .int .i64 k, .bool c] [] [.br false, .br true, .br true] isTrue =
    (decide (k < 0) = false ∧ decide (k > 127) = true ∧ (put a k c == a && put b (k - 64) c == b) = true ∧ True ∧ true = true) := by kernel_rfl
theorem withs_in (a b : BitVec 64) (k : Int) (c : Bool) : run withsCs Try.prog 11 [.agg [.w64 a, .w64 b], .int .i64 k, .bool c] [] [.br false, .br false, .br true, .br true, .br true] isTrue =
    (decide (k < 0) = false ∧ decide (k > 127) = false ∧ (bitZ (put a k c) (put b (k - 64) c) k == c) = true ∧
      decide ((cnt 64 (a ^^^ put a k c).toNat : Int) + (cnt 64 (b ^^^ put b (k - 64) c).toNat : Int) ≤ 1) = true ∧
      (put (put a k c) k (bitZ a b k) == a && put (put b (k - 64) c) (k - 64) (bitZ a b k) == b) = true ∧ True ∧ true = true) := by kernel_rfl

theorem withsCs_ok : ∀ e ∈ withsCs, SpecOK Try.prog e.1 e.2 := by
  intro e he
  simp only [withsCs, List.mem_cons, List.not_mem_nil, or_false] at he
  rcases he with rfl | rfl | rfl | rfl
  · exact awake
  · exact with_ok
  · exact bit_ok
  · exact ones_ok

theorem cnt_none : ∀ n x, (∀ i, i < n → x.testBit i = false) → cnt n x = 0
  | 0, _, _ => rfl
  | n + 1, x, h => by
    simp only [cnt]
    rw [cnt_none n x fun i hi => h i (by omega), h n (by omega)]
    rfl

theorem cnt_one (j : Nat) : ∀ n x, (∀ i, i < n → i ≠ j → x.testBit i = false) → cnt n x ≤ 1
  | 0, _, _ => by simp [cnt]
  | n + 1, x, h => by
    simp only [cnt]
    by_cases e : n = j
    · rw [cnt_none n x fun i hi => h i (by omega) (by omega)]
      split <;> omega
    · rw [h n (by omega) e]
      exact cnt_one j n x fun i hi => h i (by omega)

theorem xor_put (a : BitVec 64) (k : Int) (c : Bool) : cnt 64 (a ^^^ put a k c).toNat ≤ 1 := by
  refine cnt_one (63 - k.toNat) 64 _ fun i hi hne => ?_
  show (a ^^^ put a k c).getLsbD i = false
  rw [BitVec.getLsbD_xor]
  have h1 : a.getLsbD i = a.getMsbD (63 - i) := by rw [BitVec.getMsbD, show decide (63 - i < 64) = true from by simp; omega, Bool.true_and]; congr 1; omega
  have h2 : (put a k c).getLsbD i = (put a k c).getMsbD (63 - i) := by rw [BitVec.getMsbD, show decide (63 - i < 64) = true from by simp; omega, Bool.true_and]; congr 1; omega
  rw [h1, h2, put_get (by omega), if_neg (by omega)]
  simp

theorem xor_put_out (a : BitVec 64) (k : Int) (c : Bool) (h : k < 0 ∨ 64 ≤ k) : cnt 64 (a ^^^ put a k c).toNat = 0 := by
  rw [put_out h, BitVec.xor_self]
  exact cnt_none 64 _ fun i _ => by simp

theorem put_back (a : BitVec 64) (k : Int) (c d : Bool) (h : ∀ i : Nat, i < 64 → (i : Int) = k → d = a.getMsbD i) : put (put a k c) k d = a :=
  msb_eq fun i hi => by
    rw [put_get hi, put_get hi]
    by_cases e : (i : Int) = k
    · rw [if_pos e]; exact h i hi e
    · rw [if_neg e, if_neg e]

theorem withs_law (a b : BitVec 64) (k : Int) (c : Bool) : ∃ hs, run withsCs Try.prog 11 [.agg [.w64 a, .w64 b], .int .i64 k, .bool c] [] hs isTrue := by
  by_cases h0 : k < 0
  · refine ⟨[.br true, .br true], ?_⟩; rw [withs_neg]; refine ⟨by simpa using h0, ?_, trivial, rfl⟩
    rw [put_out (by omega), put_out (by omega)]; simp
  by_cases h1 : 127 < k
  · refine ⟨[.br false, .br true, .br true], ?_⟩; rw [withs_big]; refine ⟨by simpa using h0, by simpa using h1, ?_, trivial, rfl⟩
    rw [put_out (by omega), put_out (by omega)]; simp
  refine ⟨[.br false, .br false, .br true, .br true, .br true], ?_⟩; rw [withs_in]; refine ⟨by simpa using h0, by simpa using h1, ?_, ?_, ?_, trivial, rfl⟩
  · by_cases h2 : k < 64
    · rw [bitZ_lo (by omega) h2, put_get (by omega), if_pos (by omega)]; simp
    · rw [bitZ_hi (by omega) (by omega), put_get (by omega), if_pos (by omega)]; simp
  · have := xor_put a k c
    have := xor_put b (k - 64) c
    by_cases h2 : k < 64
    · have := xor_put_out b (k - 64) c (by omega)
      simp only [decide_eq_true_eq]; omega
    · have := xor_put_out a k c (by omega)
      simp only [decide_eq_true_eq]; omega
  · rw [put_back a k c _ fun i hi e => ?_, put_back b (k - 64) c _ fun i hi e => ?_]
    · simp
    · rw [bitZ_hi (by omega) (by omega)]; congr 1; omega
    · rw [bitZ_lo (by omega) (by omega)]; congr 1; omega

theorem withs_any : ∃ C : Sx.Call, COK Try.prog false C ∧ ∀ (a b : BitVec 64) (k : Int) (c : Bool), ∃ hs, C 11 [.agg [.w64 a, .w64 b], .int .i64 k, .bool c] [] hs isTrue :=
  ⟨run withsCs Try.prog, run_ok (l := withsCs) withsCs_ok mixed noNG, withs_law⟩

theorem withs_holds : Rows.AddrWithsSaid :=
  addrWiths_of fun a0 a1 b c w => by
    obtain ⟨C, hC, h⟩ := withs_any
    obtain ⟨hs, h⟩ := h a0 a1 b c
    exact addrWiths_call hC a0 a1 b c h w

#print axioms withs_holds
end Go.Proofs.Ytfodhjddnbgddaa.L1
