/-
  Layer 2: what prefixes match, by their bits. Plain mathematics over the contracts' own terms.
-/
import Derived.Test.YtffcpblbdfjagaaL2B
namespace Go.Proofs.Ytffcpblbdfjagaa.L1
open Go.Sx Go.Sx.M

theorem match_iff {a b c d : BitVec 64} {n : Int} : matchB a b n c d = true ↔ ∀ i : Nat, i < 128 → (i : Int) < n → bitAt a b i = bitAt c d i := cut_iff

theorem match_false {a b c d : BitVec 64} {n : Int} (h : ∃ i : Nat, i < 128 ∧ (i : Int) < n ∧ bitAt a b i ≠ bitAt c d i) : matchB a b n c d = false := by
  cases hm : matchB a b n c d with
  | false => rfl
  | true =>
    obtain ⟨i, h1, h2, h3⟩ := h
    exact absurd (match_iff.1 hm i h1 h2) h3

theorem right_iff {w : Int} {a b : BitVec 64} {n : Int} : rightB w a b n = true ↔ (w = 32 ∨ w = 128) ∧ 0 ≤ n ∧ n ≤ w ∧ ∀ i : Nat, i < 128 → n ≤ (i : Int) → bitAt a b i = false := by
  unfold rightB
  rw [Bool.and_eq_true, Bool.and_eq_true, Bool.and_eq_true, Bool.or_eq_true, beq_iff_eq, beq_iff_eq, decide_eq_true_eq, decide_eq_true_eq, cut_self]

theorem of_iff {w : Int} {a b : BitVec 64} : ofB w a b = true ↔ (w = 32 ∨ w = 128) ∧ ∀ i : Nat, i < 128 → w ≤ (i : Int) → bitAt a b i = false := by
  unfold ofB
  rw [Bool.and_eq_true, Bool.or_eq_true, beq_iff_eq, beq_iff_eq, cut_self]

theorem V_sub {a b c d : BitVec 64} (h : ∀ i : Nat, i < 128 → bitAt a b i = true → bitAt c d i = true) : V a b ≤ V c d := by
  have hs := com_spec (bitAt a b) (bitAt c d)
  by_cases h128 : com (bitAt a b) (bitAt c d) = 128
  · obtain ⟨rfl, rfl⟩ := com_eq.1 h128
    exact Nat.le_refl _
  · have hlt : com (bitAt a b) (bitAt c d) < 128 := by have := hs.le; omega
    have ho := hs.other hlt
    have hh := h _ hlt
    cases ha : bitAt a b (com (bitAt a b) (bitAt c d)) with
    | true => rw [ha, hh ha] at ho; exact absurd rfl ho
    | false =>
      cases hc : bitAt c d (com (bitAt a b) (bitAt c d)) with
      | false => rw [ha, hc] at ho; exact absurd rfl ho
      | true => exact Nat.le_of_lt (V_less hlt hs.same ha hc)

theorem cmpV_le {m n : Nat} : cmpV m n ≤ 0 ↔ m ≤ n := by
  unfold cmpV; split
  · omega
  · split <;> omega

theorem cmpV_ge {m n : Nat} : cmpV m n ≥ 0 ↔ n ≤ m := by
  unfold cmpV; split
  · omega
  · split <;> omega

theorem bitAt_put (a b : BitVec 64) (k : Int) (c : Bool) {i : Nat} (hi : i < 128) : bitAt (put a k c) (put b (k - 64) c) i = if (i : Int) = k then c else bitAt a b i := by
  unfold bitAt
  split
  · rw [put_get (by omega)]
  · rw [put_get (by omega)]
    by_cases h : (i : Int) = k
    · rw [if_pos h, if_pos (by omega)]
    · rw [if_neg h, if_neg (by omega)]

theorem bitZ_at {a b : BitVec 64} {k : Int} (h0 : 0 ≤ k) (h1 : k < 128) : bitZ a b k = bitAt a b k.toNat := by
  unfold bitZ
  rw [decide_eq_true ⟨h0, h1⟩, Bool.true_and]

/-- A prefix's sibling, bit by bit. -/
theorem bitAt_sib {a b : BitVec 64} {n : Int} (h1 : 1 ≤ n) (h2 : n ≤ 128) {i : Nat} (hi : i < 128) :
    bitAt ((put a (n - 1) !bitZ a b (n - 1)) &&& mkW n) ((put b (n - 1 - 64) !bitZ a b (n - 1)) &&& mkW (n - 64)) i = ((if (i : Int) = n - 1 then !bitAt a b (n - 1).toNat else bitAt a b i) && decide ((i : Int) < n)) := by
  rw [bitAt_cut _ _ n hi, bitAt_put a b (n - 1) _ hi, bitZ_at (by omega) (by omega)]

theorem cmpP_zero {a b : BitVec 64} {n : Int} {c d : BitVec 64} {m : Int} : cmpP a b n c d m = 0 ↔ a = c ∧ b = d ∧ n = m := by
  have h : cmpV (V a b) (V c d) = 0 ↔ a = c ∧ b = d := by
    rw [← V_inj]; unfold cmpV; split
    · simp [*]
    · split <;> simp [*]
  have h2 : cmpI n m = 0 ↔ n = m := by
    unfold cmpI; split
    · simp [*]
    · split <;> simp [*]
  unfold cmpP orI
  by_cases h3 : cmpV (V a b) (V c d) = 0
  · rw [if_pos h3, h2]
    obtain ⟨e1, e2⟩ := h.1 h3
    exact ⟨fun h => ⟨e1, e2, h⟩, fun h => h.2.2⟩
  · rw [if_neg h3]
    exact ⟨fun h4 => absurd h4 h3, fun h4 => absurd (h.2 ⟨h4.1, h4.2.1⟩) h3⟩

end Go.Proofs.Ytffcpblbdfjagaa.L1
