/-
  Plain mathematics: the number after two words' one. No program.
-/
import Derived.Test.YtbbiehgdkfgngaaM04
namespace Go.Sx.M

def hiN (n : Nat) : BitVec 64 := BitVec.ofNat 64 (n / 2 ^ 64)
def loN (n : Nat) : BitVec 64 := BitVec.ofNat 64 n

theorem V_hilo (n : Nat) : V (hiN n) (loN n) = n % 2 ^ 128 := by
  unfold V hiN loN
  rw [BitVec.toNat_ofNat, BitVec.toNat_ofNat]
  omega

theorem bitAt_hilo (n : Nat) {k : Nat} (hk : k < 128) : bitAt (hiN n) (loN n) k = n.testBit (127 - k) := by
  rw [← V_bit _ _ hk, V_hilo, Nat.testBit_mod_two_pow, show decide (127 - k < 128) = true from by simp; omega, Bool.true_and]

theorem succ_bits {x j : Nat} (h0 : x.testBit j = false) (h1 : ∀ i, i < j → x.testBit i = true) (i : Nat) : (x + 1).testBit i = if i < j + 1 then decide (j = i) else x.testBit i := by
  have e : x % 2 ^ (j + 1) = 2 ^ j - 1 := Nat.eq_of_testBit_eq fun i => by
    rw [Nat.testBit_mod_two_pow, Nat.testBit_two_pow_sub_one]
    rcases Nat.lt_trichotomy i j with h | h | h
    · rw [h1 i h, decide_eq_true (show i < j + 1 by omega), decide_eq_true h]; rfl
    · subst h; rw [h0]; simp
    · rw [decide_eq_false (show ¬ i < j + 1 by omega), decide_eq_false (show ¬ i < j by omega)]; rfl
  have hp := Nat.two_pow_pos j
  have e2 : x + 1 = 2 ^ (j + 1) * (x / 2 ^ (j + 1)) + 2 ^ j := by
    have := Nat.div_add_mod x (2 ^ (j + 1))
    omega
  rw [e2, Nat.testBit_two_pow_mul_add _ (by rw [Nat.pow_succ]; omega)]
  split
  · rw [Nat.testBit_two_pow]
  · rw [Nat.testBit_div_two_pow]
    congr 1; omega

theorem ones_bits {x : Nat} (hx : x < 2 ^ 128) (h1 : ∀ i, i < 128 → x.testBit i = true) : x = 2 ^ 128 - 1 := Nat.eq_of_testBit_eq fun i => by
  rw [Nat.testBit_two_pow_sub_one]
  by_cases h : i < 128
  · rw [h1 i h]; simp [h]
  · rw [Nat.testBit_lt_two_pow (Nat.lt_of_lt_of_le hx (Nat.pow_le_pow_right (by omega) (by omega)))]; simp [h]

theorem next_bits {a b : BitVec 64} {k : Int} (hk0 : 0 ≤ k) (hk : k < 128) (h0 : bitAt a b k.toNat = false) (h1 : ∀ i : Nat, k < (i : Int) → i < 128 → bitAt a b i = true) {m : Nat} (hm : m < 128) :
    (if k < (m : Int) then false else if k = (m : Int) then true else bitAt a b m) = bitAt (hiN (V a b + 1)) (loN (V a b + 1)) m := by
  rw [bitAt_hilo _ hm, succ_bits (j := 127 - k.toNat) (by rw [V_bit a b (by omega)]; exact h0) fun i hi => by
    have e : i = 127 - (127 - i) := by omega
    rw [e, V_bit a b (by omega)]
    exact h1 _ (by omega) (by omega)]
  split
  · rw [if_pos (by omega)]; simp; omega
  · split
    · rw [if_pos (by omega)]; simp; omega
    · rw [if_neg (by omega), V_bit a b hm]

theorem next_all {a b : BitVec 64} (h1 : ∀ i : Nat, i < 128 → bitAt a b i = true) {m : Nat} (hm : m < 128) : false = bitAt (hiN (V a b + 1)) (loN (V a b + 1)) m := by
  have e : V a b = 2 ^ 128 - 1 := ones_bits (V_lt a b) fun i hi => by
    have e : i = 127 - (127 - i) := by omega
    rw [e, V_bit a b (by omega)]
    exact h1 _ (by omega)
  rw [bitAt_hilo _ hm, e, show 2 ^ 128 - 1 + 1 = 2 ^ 128 from by omega, Nat.testBit_two_pow]
  simp; omega

end Go.Sx.M
