/-
  Plain mathematics: an address that a word matches, with the bits of a number where it is free. No program.
-/
import Derived.Test.YthhckkollnnfeaaM09
namespace Go.Sx.M

/-- How many bits behind bit i are free. -/
def fr (m n : BitVec 64) (i : Nat) : Nat := cf (fun j => !bitAt m n (127 - j)) (127 - i)

/-- Bit i of that address. -/
def smB (v w m n X : BitVec 64) (i : Nat) : Bool := if bitAt m n i then bitAt v w i else X.toNat.testBit (fr m n i)

/-- Its word from bit o on. -/
def smW (v w m n X : BitVec 64) (o : Nat) : BitVec 64 := W (fun i => smB v w m n X (o + i)) 64

theorem bitAt_W (f : Nat → Bool) {k : Nat} (hk : k < 128) : bitAt (W (fun i => f (0 + i)) 64) (W (fun i => f (64 + i)) 64) k = f k := by
  unfold bitAt
  split
  · rename_i h; rw [W_msb _ h]; congr 1; omega
  · rw [W_msb _ (by omega)]; congr 1; omega

theorem bitAt_sm (v w m n X : BitVec 64) {k : Nat} (hk : k < 128) : bitAt (smW v w m n X 0) (smW v w m n X 64) k = smB v w m n X k := bitAt_W _ hk

theorem fr_step {m n : BitVec 64} {k : Nat} (hk : k < 127) : fr m n k = fr m n (k + 1) + (if bitAt m n (k + 1) then 0 else 1) := by
  unfold fr
  rw [show 127 - k = (127 - (k + 1)) + 1 from by omega]
  have e : (!bitAt m n (127 - (127 - (k + 1)))) = !bitAt m n (k + 1) := by congr 2; omega
  show cf _ _ + (if (!bitAt m n (127 - (127 - (k + 1)))) = true then 1 else 0) = _
  simp only [e]
  cases bitAt m n (k + 1) <;> simp

theorem fr_last (m n : BitVec 64) : fr m n 127 = 0 := rfl

theorem cf_mono (f : Nat → Bool) : ∀ {a b : Nat}, a ≤ b → cf f a ≤ cf f b
  | a, b, h => by
    obtain ⟨d, rfl⟩ := Nat.exists_eq_add_of_le h
    rw [cf_add]; omega

theorem fr_mono {m n : BitVec 64} {i k : Nat} (h : i ≤ k) : fr m n k ≤ fr m n i := cf_mono _ (by omega)

theorem half_bit (l : BitVec 64) (x c : Nat) (h : l.toNat = x / 2 ^ c) : (l &&& BitVec.ofInt 64 1 == BitVec.ofInt 64 1) = x.testBit c ∧ (l % BitVec.ofInt 64 2 == BitVec.ofInt 64 1) = x.testBit c ∧
    (l >>> Int.toNat 1).toNat = x / 2 ^ (c + 1) ∧ (l / BitVec.ofInt 64 2).toNat = x / 2 ^ (c + 1) := by
  have e : x.testBit c = decide (l.toNat % 2 = 1) := by rw [Nat.testBit_eq_decide_div_mod_eq, h]
  have d : x / 2 ^ (c + 1) = l.toNat / 2 := by rw [h, Nat.pow_succ, Nat.div_div_eq_div_mul]
  have n1 : (BitVec.ofInt 64 1).toNat = 1 := by decide
  have n2 : (BitVec.ofInt 64 2).toNat = 2 := by decide
  rw [e, d]
  refine ⟨?_, ?_, ?_, ?_⟩
  · rw [Bool.eq_iff_iff, beq_iff_eq, decide_eq_true_eq, ← BitVec.toNat_inj, BitVec.toNat_and, n1, Nat.and_one_is_mod]
  · rw [Bool.eq_iff_iff, beq_iff_eq, decide_eq_true_eq, ← BitVec.toNat_inj, BitVec.toNat_umod, n1, n2]
  · rw [BitVec.toNat_ushiftRight, Nat.shiftRight_eq_div_pow]; rfl
  · rw [BitVec.toNat_udiv, n2]

theorem smB_end {v w m n X : BitVec 64} {i k : Nat} (h : i ≤ k) (h0 : X.toNat / 2 ^ fr m n k = 0) : smB v w m n X i = (bitAt v w i && bitAt m n i) := by
  unfold smB
  cases hm : bitAt m n i with
  | true => simp
  | false =>
    simp only [Bool.and_false, Bool.false_eq_true, if_false]
    refine Nat.testBit_lt_two_pow (Nat.lt_of_lt_of_le ?_ (Nat.pow_le_pow_right (by omega) (fr_mono h)))
    have hp : 0 < 2 ^ fr m n k := Nat.two_pow_pos _
    rcases (Nat.div_eq_zero_iff).1 h0 with h1 | h1
    · omega
    · exact h1

theorem sm_match (v w m n X : BitVec 64) : wmB v w m n (smW v w m n X 0) (smW v w m n X 64) = true := by
  rw [wmB_iff]
  intro k hk hm
  rw [bitAt_sm _ _ _ _ _ hk]
  unfold smB
  rw [if_pos hm]

theorem bits_of (a b m n : BitVec 64) : ∀ j, j ≤ 128 → ∃ K, K < 2 ^ cf (fun t => !bitAt m n (127 - t)) j ∧ ∀ i, i < j → bitAt m n (127 - i) = false → K.testBit (fr m n (127 - i)) = bitAt a b (127 - i)
  | 0, _ => ⟨0, by simp [cf], fun i hi => by omega⟩
  | j + 1, hj => by
    obtain ⟨K, h1, h2⟩ := bits_of a b m n j (by omega)
    have ec : cf (fun t => !bitAt m n (127 - t)) (j + 1) = cf (fun t => !bitAt m n (127 - t)) j + (if (!bitAt m n (127 - j)) = true then 1 else 0) := rfl
    have ef : fr m n (127 - j) = cf (fun t => !bitAt m n (127 - t)) j := by unfold fr; congr 1; omega
    cases hm : bitAt m n (127 - j) with
    | true =>
      refine ⟨K, by rw [ec, hm]; simpa using h1, fun i hi hf => ?_⟩
      rcases Nat.lt_or_eq_of_le (Nat.le_of_lt_succ hi) with h | rfl
      · exact h2 i h hf
      · rw [hm] at hf; cases hf
    | false =>
      generalize hc : cf (fun t => !bitAt m n (127 - t)) j = c at *
      have e1 : cf (fun t => !bitAt m n (127 - t)) (j + 1) = c + 1 := by rw [ec, hm]; rfl
      have low : ∀ i, i < j → fr m n (127 - i) < c ∨ bitAt m n (127 - i) = true := fun i hi => by
        cases hb : bitAt m n (127 - i) with
        | true => exact .inr rfl
        | false =>
          left
          have : fr m n (127 - i) = cf (fun t => !bitAt m n (127 - t)) i := by unfold fr; congr 1; omega
          have e : cf (fun t => !bitAt m n (127 - t)) (i + 1) = cf (fun t => !bitAt m n (127 - t)) i + (if (!bitAt m n (127 - i)) = true then 1 else 0) := rfl
          rw [hb] at e
          have le := cf_mono (fun t => !bitAt m n (127 - t)) (show i + 1 ≤ j by omega)
          rw [hc] at le
          simp at e
          omega
      refine ⟨2 ^ c * (bitAt a b (127 - j)).toNat + K, ?_, fun i hi hf => ?_⟩
      · rw [e1, Nat.pow_succ]
        have : (bitAt a b (127 - j)).toNat ≤ 1 := Bool.toNat_le _
        have := Nat.mul_le_mul_left (2 ^ c) this
        omega
      · rw [Nat.testBit_two_pow_mul_add _ h1]
        rcases Nat.lt_or_eq_of_le (Nat.le_of_lt_succ hi) with h | rfl
        · rcases low i h with h3 | h3
          · rw [if_pos h3]; exact h2 i h hf
          · rw [h3] at hf; cases hf
        · rw [ef, if_neg (by omega), Nat.sub_self]
          cases bitAt a b (127 - i) <;> rfl

theorem some_all {v w m n a b : BitVec 64} (h : wmB v w m n a b = true) (hf : (cnt 64 (~~~m).toNat : Int) + (cnt 64 (~~~n).toNat : Int) ≤ 8) :
    ∃ K : Nat, K < 256 ∧ smW v w m n (BitVec.ofInt 64 K) 0 = a ∧ smW v w m n (BitVec.ofInt 64 K) 64 = b := by
  obtain ⟨K, h1, h2⟩ := bits_of a b m n 128 (by omega)
  have e1 : cf (fun t => !bitAt m n (127 - t)) 128 = cf (fun t => !bitAt m n t) 128 := cf_turn (fun t => !bitAt m n t) 128
  have e2 : cf (fun t => !bitAt m n t) 128 = cf (bitAt (~~~m) (~~~n)) 128 := cf_congr fun i hi => (bitAt_not m n hi).symm
  have e3 := cnt_words (~~~m) (~~~n)
  have hK : K < 256 := Nat.lt_of_lt_of_le h1 (by
    rw [e1, e2]
    have : cf (bitAt (~~~m) (~~~n)) 128 ≤ 8 := by omega
    exact Nat.pow_le_pow_right (show 0 < 2 by decide) this)
  have eX : (BitVec.ofInt 64 (K : Int)).toNat = K := by
    rw [BitVec.toNat_ofInt]; omega
  refine ⟨K, hK, bitAt_eq fun i hi => ?_⟩
  rw [bitAt_sm _ _ _ _ _ hi]
  unfold smB
  rw [eX]
  cases hm : bitAt m n i with
  | true => rw [if_pos rfl]; exact wmB_iff.1 h i hi hm
  | false =>
    rw [if_neg (by simp)]
    have := h2 (127 - i) (by omega)
    rw [show 127 - (127 - i) = i from by omega] at this
    exact this hm

end Go.Sx.M
