/-
  Plain mathematics for layer 1: the bits of two words, from the left. No program.
-/
import Derived.Laws.Small
namespace Go.Sx.M

/-- Bit k of two words, from the left. -/
def bitAt (a b : BitVec 64) (k : Nat) : Bool := if k < 64 then a.getMsbD k else b.getMsbD (k - 64)

def divs (a : BitVec 64) : Nat → BitVec 64
  | 0 => a
  | j + 1 => divs a j / BitVec.ofInt 64 2

def bitDiv (a b : BitVec 64) (k : Nat) : Bool :=
  match decide (k < 64) with
  | true => divs a (63 - k) % BitVec.ofInt 64 2 == BitVec.ofInt 64 1
  | false => divs b (127 - k) % BitVec.ofInt 64 2 == BitVec.ofInt 64 1

theorem divs_toNat (a : BitVec 64) : ∀ j, (divs a j).toNat = a.toNat / 2 ^ j
  | 0 => by simp [divs]
  | j + 1 => by
    rw [divs, BitVec.toNat_udiv, divs_toNat a j, show (BitVec.ofInt 64 2).toNat = 2 from by decide, Nat.div_div_eq_div_mul, Nat.pow_succ]

theorem divs_bit (a : BitVec 64) (j : Nat) : (divs a j % BitVec.ofInt 64 2 == BitVec.ofInt 64 1) = a.getLsbD j := by
  rw [Bool.eq_iff_iff, beq_iff_eq, ← BitVec.toNat_inj, BitVec.toNat_umod, divs_toNat, show (BitVec.ofInt 64 2).toNat = 2 from by decide, show (BitVec.ofInt 64 1).toNat = 1 from by decide,
    BitVec.getLsbD, Nat.testBit_eq_decide_div_mod_eq, decide_eq_true_eq]

theorem bitDiv_eq {a b : BitVec 64} {k : Nat} (hk : k < 128) : bitDiv a b k = bitAt a b k := by
  unfold bitDiv bitAt
  by_cases h : k < 64
  · simp only [h, decide_true, if_true, divs_bit, BitVec.getMsbD, Bool.true_and]
  · simp only [h, decide_false, if_false, divs_bit, BitVec.getMsbD]
    rw [show decide (k - 64 < 64) = true from by simp; omega, Bool.true_and]
    congr 1
    omega

/-- The first n of bits, as a number. -/
def W (f : Nat → Bool) : Nat → BitVec 64
  | 0 => 0#64
  | n + 1 => if f n then W f n * 2#64 + 1#64 else W f n * 2#64

theorem mul_two (x : BitVec 64) : x * 2#64 = x <<< 1 := by
  apply BitVec.eq_of_toNat_eq
  rw [BitVec.toNat_mul, BitVec.toNat_shiftLeft, Nat.shiftLeft_eq]
  rfl

theorem shl_one_or (x : BitVec 64) : x <<< 1 + 1#64 = x <<< 1 ||| 1#64 := by
  apply BitVec.add_eq_or_of_and_eq_zero
  apply BitVec.eq_of_getLsbD_eq
  intro i hi
  cases i <;> simp [BitVec.getLsbD_one]

theorem W_get (f : Nat → Bool) : ∀ n, n ≤ 64 → ∀ j, (W f n).getLsbD j = (decide (j < n) && f (n - 1 - j))
  | 0, _, j => by simp [W]
  | n + 1, hn, j => by
    have ih := W_get f n (by omega)
    have e : W f (n + 1) = (W f n <<< 1) ||| (if f n then 1#64 else 0#64) := by
      show (if f n then W f n * 2#64 + 1#64 else W f n * 2#64) = _
      rw [mul_two]
      cases f n
      · simp
      · exact shl_one_or _
    rw [e, BitVec.getLsbD_or, BitVec.getLsbD_shiftLeft]
    rcases Nat.eq_zero_or_pos j with h0 | h0
    · subst h0
      simp only [Nat.sub_zero, Nat.add_sub_cancel]
      cases f n <;> simp
    · rw [ih (j - 1)]
      have h1 : (if f n = true then 1#64 else 0#64).getLsbD j = false := by
        split
        · rw [BitVec.getLsbD_one]; simp; omega
        · simp
      rw [h1, Bool.or_false]
      by_cases hj : j < n + 1
      · have a1 : decide (j < 64) = true := by simp; omega
        have a2 : decide (j < 1) = false := by simp; omega
        have a3 : decide (j - 1 < n) = true := by simp; omega
        have a4 : decide (j < n + 1) = true := by simp; omega
        rw [a1, a2, a3, a4]
        simp only [Bool.not_false, Bool.true_and]
        congr 1; omega
      · have a3 : decide (j - 1 < n) = false := by simp; omega
        have a4 : decide (j < n + 1) = false := by simp; omega
        rw [a3, a4]; simp

theorem msb_eq {a b : BitVec 64} (h : ∀ i, i < 64 → a.getMsbD i = b.getMsbD i) : a = b := by
  apply BitVec.eq_of_getMsbD_eq
  intro i hi
  exact h i hi

theorem W_msb (f : Nat → Bool) {i : Nat} (hi : i < 64) : (W f 64).getMsbD i = f i := by
  rw [BitVec.getMsbD, W_get f 64 (by omega)]
  have a1 : decide (i < 64) = true := by simpa using hi
  have a2 : decide (64 - 1 - i < 64) = true := by simp; omega
  rw [a1, a2]
  simp only [Bool.true_and]
  congr 1; omega

theorem W_eq {f : Nat → Bool} {a : BitVec 64} (h : ∀ i, i < 64 → f i = a.getMsbD i) : W f 64 = a :=
  msb_eq fun i hi => by rw [W_msb f hi, h i hi]

/-- A word with the bit j from the right alone. -/
def one (j : Nat) : BitVec 64 := BitVec.ofInt 64 1 <<< j

theorem one_get (j i : Nat) : (one j).getLsbD i = (decide (i < 64) && decide (i = j)) := by
  unfold one
  rw [BitVec.getLsbD_shiftLeft, show BitVec.ofInt 64 1 = 1#64 from rfl, BitVec.getLsbD_one]
  by_cases h : i = j
  · subst h; simp
  · by_cases h2 : i < j
    · simp [h2, h]
    · rw [show decide (i - j = 0) = false from by simp; omega]; simp [h]

theorem and_one {a : BitVec 64} {j : Nat} (hj : j < 64) : (a &&& one j != BitVec.ofInt 64 0) = a.getLsbD j := by
  rw [show BitVec.ofInt 64 0 = 0#64 from rfl]
  cases h : a.getLsbD j
  · rw [bne_eq_false_iff_eq]
    apply BitVec.eq_of_getLsbD_eq
    intro i hi
    rw [BitVec.getLsbD_and, one_get, BitVec.getLsbD_zero]
    by_cases e : i = j
    · subst e; simp [h]
    · simp [e]
  · rw [bne_iff_ne]
    intro e
    have h2 : (a &&& one j).getLsbD j = (0#64).getLsbD j := by rw [e]
    rw [BitVec.getLsbD_and, one_get, h, BitVec.getLsbD_zero] at h2
    simp [hj] at h2

def bitZ (a b : BitVec 64) (k : Int) : Bool := decide (0 ≤ k ∧ k < 128) && bitAt a b k.toNat

theorem bitZ_lo {a b : BitVec 64} {k : Int} (h0 : 0 ≤ k) (h1 : k < 64) : bitZ a b k = a.getMsbD k.toNat := by
  unfold bitZ bitAt
  rw [if_pos (by omega), show decide (0 ≤ k ∧ k < 128) = true from by simp; omega, Bool.true_and]

theorem bitZ_hi {a b : BitVec 64} {k : Int} (h0 : 64 ≤ k) (h1 : k < 128) : bitZ a b k = b.getMsbD (k.toNat - 64) := by
  unfold bitZ bitAt
  rw [if_neg (by omega), show decide (0 ≤ k ∧ k < 128) = true from by simp; omega, Bool.true_and]

theorem bitZ_out {a b : BitVec 64} {k : Int} (h : k < 0 ∨ 128 ≤ k) : bitZ a b k = false := by
  unfold bitZ
  rw [show decide (0 ≤ k ∧ k < 128) = false from by simp; omega, Bool.false_and]

/-- A word with its bit k, from the left, so. -/
def put (a : BitVec 64) (k : Int) (c : Bool) : BitVec 64 :=
  if 0 ≤ k ∧ k < 64 then (match c with | true => a ||| one (63 - k.toNat) | false => a &&& ~~~one (63 - k.toNat)) else a

theorem put_in {a : BitVec 64} {k : Int} {c : Bool} (h0 : 0 ≤ k) (h1 : k < 64) : put a k c = match c with | true => a ||| one (63 - k.toNat) | false => a &&& ~~~one (63 - k.toNat) := if_pos ⟨h0, h1⟩
theorem put_out {a : BitVec 64} {k : Int} {c : Bool} (h : k < 0 ∨ 64 ≤ k) : put a k c = a := if_neg (by omega)

theorem put_get {a : BitVec 64} {k : Int} {c : Bool} {i : Nat} (hi : i < 64) : (put a k c).getMsbD i = if (i : Int) = k then c else a.getMsbD i := by
  by_cases h : 0 ≤ k ∧ k < 64
  · rw [put_in h.1 h.2]
    have e : (63 - i = 63 - k.toNat) ↔ ((i : Int) = k) := by omega
    have e64 : decide (i < 64) = true := by simpa using hi
    have e63 : decide (64 - 1 - i < 64) = true := by simp; omega
    cases c
    · simp only [BitVec.getMsbD, BitVec.getLsbD_and, BitVec.getLsbD_not, one_get, e64, e63, Bool.true_and]
      by_cases hk : (i : Int) = k
      · simp [hk, show 64 - 1 - i = 63 - k.toNat from by omega]
      · simp [hk, show ¬ (63 - i = 63 - k.toNat) from by omega]
    · simp only [BitVec.getMsbD, BitVec.getLsbD_or, one_get, e64, e63, Bool.true_and]
      by_cases hk : (i : Int) = k
      · simp [hk, show 64 - 1 - i = 63 - k.toNat from by omega]
      · simp [hk, show ¬ (63 - i = 63 - k.toNat) from by omega]
  · rw [put_out (by omega), if_neg (by omega)]

end Go.Sx.M
