/-
  The law AddrBits: any bit is told, and set, as the document says.
-/
import Derived.Test.YtfodhjddnbgddaaL1FBits
import Derived.Test.YtfodhjddnbgddaaL1Words
import Derived.Test.YtfodhjddnbgddaaL1Bit
namespace Go.Proofs.Ytfodhjddnbgddaa.L1
open Go.Sx Go.Sx.M

noncomputable def bitsCs : List (FuncId × Sx.Spec) := [(18, awakeSpec), (19, genSpec withF), (20, genSpec bitF), (21, genSpec (bitsF false)), (22, genSpec wordsF)]

theorem bits_neg (a b : BitVec 64) (k : Int) (c : Bool) : run bitsCs Try.prog 4 [.agg [.w64 a, .w64 b], .int .i64 k, .bool c] [] [.br true, .br true, .br true] isTrue =
    (decide (k < 0) = true ∧ (put a k c == a && put b (k - 64) c == b) = true ∧ (!bitZ a b k) = true ∧ True ∧ true = true) := by kernel_rfl
theorem bits_big (a b : BitVec 64) (k : Int) (c : Bool) : run bitsCs Try.prog 4 [.agg [.w64 a, .w64 b], .int .i64 k, .bool c] [] [.br false, .br true, .br true, .br true] isTrue =
    (decide (k < 0) = false ∧ decide (k > 127) = true ∧ (put a k c == a && put b (k - 64) c == b) = true ∧ (!bitZ a b k) = true ∧ True ∧ true = true) := by kernel_rfl


def rowOf (a b : BitVec 64) : Blk := ⟨true, 4, 1, true, bitsOf a b⟩

theorem bits_in (a b : BitVec 64) (k : Int) (c v : Bool) : run bitsCs Try.prog 4 [.agg [.w64 a, .w64 b], .int .i64 k, .bool c] [] [.br false, .br false, .dy, .cell (.bool v), .br false, .dy, .br true] isTrue =
    (decide (k < 0) = false ∧ decide (k > 127) = false ∧ (0 ≤ k ∧ k < ((128 : Nat) : Int)) ∧ (rowOf a b).read Try.prog 4 (0 + k.toNat) 0 = some (.bool v) ∧ (!(bitZ a b k == v)) = false ∧
      (0 ≤ k ∧ k < ((128 : Nat) : Int)) ∧ (rowOf a b).fits (0 + k.toNat) 0 (.bool c) = true ∧ (0 + 128 ≤ ((rowOf a b).write (0 + k.toNat) 0 (.bool c)).elems.length ∧ 0 < 1) ∧
      ∃ l : List Bool, (((rowOf a b).write (0 + k.toNat) 0 (.bool c)).elems.drop 0).take 128 = l.map .bool ∧ l.length = 128 ∧
        (put a k c == W (fun i => l.getD i false) 64 && put b (k - 64) c == W (fun i => l.getD (64 + i) false) 64) = true ∧ True ∧ true = true) := by kernel_rfl

theorem rowAt (a b : BitVec 64) {n : Nat} (hn : n < 128) : (bitsOf a b)[n]? = some (.bool (bitAt a b n)) := by
  unfold bitsOf
  rw [List.getElem?_map, List.getElem?_range hn]
  rfl

theorem bitsCs_ok : ∀ e ∈ bitsCs, SpecOK Try.prog e.1 e.2 := by
  intro e he
  simp only [bitsCs, List.mem_cons, List.not_mem_nil, or_false] at he
  rcases he with rfl | rfl | rfl | rfl | rfl
  · exact awake
  · exact with_ok
  · exact bit_ok
  · exact L1.bits_ok false
  · exact words_ok

theorem bits_law (a b : BitVec 64) (k : Int) (c : Bool) : ∃ hs, run bitsCs Try.prog 4 [.agg [.w64 a, .w64 b], .int .i64 k, .bool c] [] hs isTrue := by
  by_cases h0 : k < 0
  · refine ⟨[.br true, .br true, .br true], ?_⟩; rw [bits_neg]; refine ⟨by simpa using h0, ?_, ?_, trivial, rfl⟩
    · rw [put_out (by omega), put_out (by omega)]; simp
    · rw [bitZ_out (by omega)]; rfl
  by_cases h1 : 127 < k
  · refine ⟨[.br false, .br true, .br true, .br true], ?_⟩; rw [bits_big]; refine ⟨by simpa using h0, by simpa using h1, ?_, ?_, trivial, rfl⟩
    · rw [put_out (by omega), put_out (by omega)]; simp
    · rw [bitZ_out (by omega)]; rfl
  have hk : k.toNat < 128 := by omega
  have hat : (rowOf a b).elems[0 + k.toNat]? = some (.bool (bitAt a b k.toNat)) := by rw [Nat.zero_add]; exact rowAt a b hk
  have hw : ((rowOf a b).write (0 + k.toNat) 0 (.bool c)).elems = (((List.range 128).map (bitAt a b)).set k.toNat c).map .bool := by
    unfold Blk.write
    rw [hat, Nat.zero_add, List.map_set, List.map_map]
    rfl
  have hl : (((List.range 128).map (bitAt a b)).set k.toNat c).length = 128 := by simp
  have hget : ∀ i, i < 128 → (((List.range 128).map (bitAt a b)).set k.toNat c).getD i false = if (i : Int) = k then c else bitAt a b i := by
    intro i hi
    rw [List.getD_eq_getElem?_getD, List.getElem?_set]
    by_cases e : k.toNat = i
    · rw [if_pos e, if_pos (by simpa using hk), if_pos (by omega)]; rfl
    · rw [if_neg e, if_neg (by omega), List.getElem?_map, List.getElem?_range hi]; rfl
  refine ⟨[.br false, .br false, .dy, .cell (.bool (bitAt a b k.toNat)), .br false, .dy, .br true], ?_⟩; rw [bits_in]; refine ⟨by simpa using h0, by simpa using h1, by omega, read1 (by rw [Nat.zero_add] at hat; exact hat) (by kernel_rfl), ?_, by omega, ?_, ?_, _, ?_, hl, ?_, trivial, rfl⟩
  · rw [bitZ, show decide (0 ≤ k ∧ k < 128) = true from by simp; omega, Bool.true_and]; simp
  · unfold Blk.fits; rw [hat]; rfl
  · rw [hw]; simp
  · rw [hw, List.drop_zero, List.take_of_length_le (by simp)]
  · rw [W_eq (a := put a k c), W_eq (a := put b (k - 64) c)]
    · simp
    · intro i hi
      rw [hget _ (by omega), put_get hi]
      have e : (((64 + i : Nat) : Int) = k) ↔ ((i : Int) = k - 64) := by omega
      simp only [e, bitAt, if_neg (show ¬ 64 + i < 64 from by omega), show 64 + i - 64 = i from by omega]
    · intro i hi
      rw [hget _ (by omega), put_get hi]
      simp only [bitAt, if_pos hi]

theorem bits_any : ∃ C : Sx.Call, COK Try.prog false C ∧ ∀ (a b : BitVec 64) (k : Int) (c : Bool), ∃ hs, C 4 [.agg [.w64 a, .w64 b], .int .i64 k, .bool c] [] hs isTrue :=
  ⟨run bitsCs Try.prog, run_ok (l := bitsCs) bitsCs_ok mixed noNG, bits_law⟩

theorem bits_holds : Rows.AddrBitsSaid :=
  addrBits_of fun a0 a1 b c w => by
    obtain ⟨C, hC, h⟩ := bits_any
    obtain ⟨hs, h⟩ := h a0 a1 b c
    exact addrBits_call hC a0 a1 b c h w

#print axioms bits_holds
end Go.Proofs.Ytfodhjddnbgddaa.L1
