/-
  Texts in one: M01 M02 M03 M04 M09 M10 M11 M12 M13 M33 M35 M36.
-/
import Derived.Laws.Small

section
/-
  Plain mathematics for layer 1: the bits of two words, from the left. No program.
-/
namespace Go.Sx.M

/-- Bit k of two words, from the left. -/
def bitAt (a b : BitVec 64) (k : Nat) : Bool := if k < 64 then a.getMsbD k else b.getMsbD (k - 64)

def divs (a : BitVec 64) : Nat → BitVec 64
  | 0 => a
  | j + 1 => divs a j / BitVec.ofInt 64 2

def bitDiv (a b : BitVec 64) (k : Nat) : Bool :=
  match decide (k < 64) with
  | true => divs a (63 - k) % BitVec.ofInt 64 2 == BitVec.ofInt 64 1
  | false => divs b (127 - k) % BitVec.ofInt 64 2 == BitVec.ofInt 64 1

theorem divs_toNat (a : BitVec 64) : ∀ j, (divs a j).toNat = a.toNat / 2 ^ j
  | 0 => by simp [divs]
  | j + 1 => by
    rw [divs, BitVec.toNat_udiv, divs_toNat a j, show (BitVec.ofInt 64 2).toNat = 2 from by decide, Nat.div_div_eq_div_mul, Nat.pow_succ]

theorem divs_bit (a : BitVec 64) (j : Nat) : (divs a j % BitVec.ofInt 64 2 == BitVec.ofInt 64 1) = a.getLsbD j := by
  rw [Bool.eq_iff_iff, beq_iff_eq, ← BitVec.toNat_inj, BitVec.toNat_umod, divs_toNat, show (BitVec.ofInt 64 2).toNat = 2 from by decide, show (BitVec.ofInt 64 1).toNat = 1 from by decide,
    BitVec.getLsbD, Nat.testBit_eq_decide_div_mod_eq, decide_eq_true_eq]

theorem bitDiv_eq {a b : BitVec 64} {k : Nat} (hk : k < 128) : bitDiv a b k = bitAt a b k := by
  unfold bitDiv bitAt
  by_cases h : k < 64
  · simp only [h, decide_true, if_true, divs_bit, BitVec.getMsbD, Bool.true_and]
  · simp only [h, decide_false, if_false, divs_bit, BitVec.getMsbD]
    rw [show decide (k - 64 < 64) = true from by simp; omega, Bool.true_and]
    congr 1
    omega

/-- The first n of bits, as a number. -/
def W (f : Nat → Bool) : Nat → BitVec 64
  | 0 => 0#64
  | n + 1 => if f n then W f n * 2#64 + 1#64 else W f n * 2#64

theorem mul_two (x : BitVec 64) : x * 2#64 = x <<< 1 := by
  apply BitVec.eq_of_toNat_eq
  rw [BitVec.toNat_mul, BitVec.toNat_shiftLeft, Nat.shiftLeft_eq]
  rfl

theorem shl_one_or (x : BitVec 64) : x <<< 1 + 1#64 = x <<< 1 ||| 1#64 := by
  apply BitVec.add_eq_or_of_and_eq_zero
  apply BitVec.eq_of_getLsbD_eq
  intro i hi
  cases i <;> simp [BitVec.getLsbD_one]

theorem W_get (f : Nat → Bool) : ∀ n, n ≤ 64 → ∀ j, (W f n).getLsbD j = (decide (j < n) && f (n - 1 - j))
  | 0, _, j => by simp [W]
  | n + 1, hn, j => by
    have ih := W_get f n (by omega)
    have e : W f (n + 1) = (W f n <<< 1) ||| (if f n then 1#64 else 0#64) := by
      show (if f n then W f n * 2#64 + 1#64 else W f n * 2#64) = _
      rw [mul_two]
      cases f n
      · simp
      · exact shl_one_or _
    rw [e, BitVec.getLsbD_or, BitVec.getLsbD_shiftLeft]
    rcases Nat.eq_zero_or_pos j with h0 | h0
    · subst h0
      simp only [Nat.sub_zero, Nat.add_sub_cancel]
      cases f n <;> simp
    · rw [ih (j - 1)]
      have h1 : (if f n = true then 1#64 else 0#64).getLsbD j = false := by
        split
        · rw [BitVec.getLsbD_one]; simp; omega
        · simp
      rw [h1, Bool.or_false]
      by_cases hj : j < n + 1
      · have a1 : decide (j < 64) = true := by simp; omega
        have a2 : decide (j < 1) = false := by simp; omega
        have a3 : decide (j - 1 < n) = true := by simp; omega
        have a4 : decide (j < n + 1) = true := by simp; omega
        rw [a1, a2, a3, a4]
        simp only [Bool.not_false, Bool.true_and]
        congr 1; omega
      · have a3 : decide (j - 1 < n) = false := by simp; omega
        have a4 : decide (j < n + 1) = false := by simp; omega
        rw [a3, a4]; simp

theorem msb_eq {a b : BitVec 64} (h : ∀ i, i < 64 → a.getMsbD i = b.getMsbD i) : a = b := by
  apply BitVec.eq_of_getMsbD_eq
  intro i hi
  exact h i hi

theorem W_msb (f : Nat → Bool) {i : Nat} (hi : i < 64) : (W f 64).getMsbD i = f i := by
  rw [BitVec.getMsbD, W_get f 64 (by omega)]
  have a1 : decide (i < 64) = true := by simpa using hi
  have a2 : decide (64 - 1 - i < 64) = true := by simp; omega
  rw [a1, a2]
  simp only [Bool.true_and]
  congr 1; omega

/-- A word with the bit j from the right alone. -/
def one (j : Nat) : BitVec 64 := BitVec.ofInt 64 1 <<< j

theorem one_get (j i : Nat) : (one j).getLsbD i = (decide (i < 64) && decide (i = j)) := by
  unfold one
  rw [BitVec.getLsbD_shiftLeft, show BitVec.ofInt 64 1 = 1#64 from rfl, BitVec.getLsbD_one]
  by_cases h : i = j
  · subst h; simp
  · by_cases h2 : i < j
    · simp [h2, h]
    · rw [show decide (i - j = 0) = false from by simp; omega]; simp [h]

theorem and_one {a : BitVec 64} {j : Nat} (hj : j < 64) : (a &&& one j != BitVec.ofInt 64 0) = a.getLsbD j := by
  rw [show BitVec.ofInt 64 0 = 0#64 from rfl]
  cases h : a.getLsbD j
  · rw [bne_eq_false_iff_eq]
    apply BitVec.eq_of_getLsbD_eq
    intro i hi
    rw [BitVec.getLsbD_and, one_get, BitVec.getLsbD_zero]
    by_cases e : i = j
    · subst e; simp [h]
    · simp [e]
  · rw [bne_iff_ne]
    intro e
    have h2 : (a &&& one j).getLsbD j = (0#64).getLsbD j := by rw [e]
    rw [BitVec.getLsbD_and, one_get, h, BitVec.getLsbD_zero] at h2
    simp [hj] at h2

def bitZ (a b : BitVec 64) (k : Int) : Bool := decide (0 ≤ k ∧ k < 128) && bitAt a b k.toNat

theorem bitZ_lo {a b : BitVec 64} {k : Int} (h0 : 0 ≤ k) (h1 : k < 64) : bitZ a b k = a.getMsbD k.toNat := by
  unfold bitZ bitAt
  rw [if_pos (by omega), show decide (0 ≤ k ∧ k < 128) = true from by simp; omega, Bool.true_and]

theorem bitZ_hi {a b : BitVec 64} {k : Int} (h0 : 64 ≤ k) (h1 : k < 128) : bitZ a b k = b.getMsbD (k.toNat - 64) := by
  unfold bitZ bitAt
  rw [if_neg (by omega), show decide (0 ≤ k ∧ k < 128) = true from by simp; omega, Bool.true_and]

theorem bitZ_out {a b : BitVec 64} {k : Int} (h : k < 0 ∨ 128 ≤ k) : bitZ a b k = false := by
  unfold bitZ
  rw [show decide (0 ≤ k ∧ k < 128) = false from by simp; omega, Bool.false_and]

/-- A word with its bit k, from the left, so. -/
def put (a : BitVec 64) (k : Int) (c : Bool) : BitVec 64 :=
  if 0 ≤ k ∧ k < 64 then (match c with | true => a ||| one (63 - k.toNat) | false => a &&& ~~~one (63 - k.toNat)) else a

theorem put_in {a : BitVec 64} {k : Int} {c : Bool} (h0 : 0 ≤ k) (h1 : k < 64) : put a k c = match c with | true => a ||| one (63 - k.toNat) | false => a &&& ~~~one (63 - k.toNat) := if_pos ⟨h0, h1⟩
theorem put_out {a : BitVec 64} {k : Int} {c : Bool} (h : k < 0 ∨ 64 ≤ k) : put a k c = a := if_neg (by omega)

theorem put_get {a : BitVec 64} {k : Int} {c : Bool} {i : Nat} (hi : i < 64) : (put a k c).getMsbD i = if (i : Int) = k then c else a.getMsbD i := by
  by_cases h : 0 ≤ k ∧ k < 64
  · rw [put_in h.1 h.2]
    have e : (63 - i = 63 - k.toNat) ↔ ((i : Int) = k) := by omega
    have e64 : decide (i < 64) = true := by simpa using hi
    have e63 : decide (64 - 1 - i < 64) = true := by simp; omega
    cases c
    · simp only [BitVec.getMsbD, BitVec.getLsbD_and, BitVec.getLsbD_not, one_get, e64, e63, Bool.true_and]
      by_cases hk : (i : Int) = k
      · simp [hk, show 64 - 1 - i = 63 - k.toNat from by omega]
      · simp [hk, show ¬ (63 - i = 63 - k.toNat) from by omega]
    · simp only [BitVec.getMsbD, BitVec.getLsbD_or, one_get, e64, e63, Bool.true_and]
      by_cases hk : (i : Int) = k
      · simp [hk, show 64 - 1 - i = 63 - k.toNat from by omega]
      · simp [hk, show ¬ (63 - i = 63 - k.toNat) from by omega]
  · rw [put_out (by omega), if_neg (by omega)]

end Go.Sx.M
end

section
/-
  Plain mathematics: the sums of adjacent bits (what OnesCount64 computes) count the bits that are set. No program.
-/
namespace Go.Sx.M

def val : List Nat → Nat
  | [] => 0
  | u :: l => 256 * val l + u

def small (l : List Nat) : Prop := ∀ u ∈ l, u < 256

def s1 (u : Nat) : Nat := (u / 2 &&& 85) + (u &&& 85)
def s2 (u : Nat) : Nat := (u / 4 &&& 51) + (u &&& 51)
def s3 (u : Nat) : Nat := u / 16 + u &&& 15

theorem a1 : ∀ u : Fin 256, ∀ c : Fin 2, (u.val / 2 + 128 * c.val) &&& 85 = u.val / 2 &&& 85 := by decide +kernel
theorem a2 : ∀ u : Fin 256, ∀ c : Fin 4, (u.val / 4 + 64 * c.val) &&& 51 = u.val / 4 &&& 51 := by decide +kernel
theorem b1 : ∀ u : Fin 256, s1 u.val < 256 := by decide +kernel
theorem b2 : ∀ u : Fin 256, s2 (s1 u.val) < 69 ∧ s2 (s1 u.val) % 16 < 5 := by decide +kernel
theorem a3 : ∀ u : Fin 69, ∀ c : Fin 5, (u.val / 16 + 16 * c.val + u.val) &&& 15 = (u.val / 16 + u.val) &&& 15 := by decide +kernel

/-- How many of the first n bits are set. -/
def cnt : Nat → Nat → Nat
  | 0, _ => 0
  | n + 1, x => cnt n x + (if x.testBit n then 1 else 0)

theorem c3 : ∀ u : Fin 256, s3 (s2 (s1 u.val)) = cnt 8 u.val := by decide +kernel

theorem last (c0 c1 c2 c3 c4 c5 c6 c7 : Nat) (h0 : c0 < 9) (h1 : c1 < 9) (h2 : c2 < 9) (h3 : c3 < 9) (h4 : c4 < 9) (h5 : c5 < 9) (h6 : c6 < 9) (h7 : c7 < 9) (y y1 y2 y3 : Nat)
    (hy : y = val [c0, c1, c2, c3, c4, c5, c6, c7]) (hy1 : y1 = y + y / 256) (hy2 : y2 = y1 + y1 / 65536) (hy3 : y3 = y2 + y2 / 4294967296) :
    y3 < 18446744073709551616 ∧ y3 % 128 = c0 + c1 + c2 + c3 + c4 + c5 + c6 + c7 := by
  simp only [val] at hy
  have q1 : y / 256 = val [c1, c2, c3, c4, c5, c6, c7] := by simp only [val]; omega
  simp only [val] at q1
  have e1 : y1 = val [c0 + c1, c1 + c2, c2 + c3, c3 + c4, c4 + c5, c5 + c6, c6 + c7, c7] := by simp only [val]; omega
  clear hy1 q1 hy
  simp only [val] at e1
  have q2 : y1 / 65536 = val [c2 + c3, c3 + c4, c4 + c5, c5 + c6, c6 + c7, c7] := by simp only [val]; omega
  simp only [val] at q2
  have e2 : y2 = val [c0 + c1 + c2 + c3, c1 + c2 + c3 + c4, c2 + c3 + c4 + c5, c3 + c4 + c5 + c6, c4 + c5 + c6 + c7, c5 + c6 + c7, c6 + c7, c7] := by simp only [val]; omega
  clear hy2 q2 e1
  simp only [val] at e2
  have q3 : y2 / 4294967296 = val [c4 + c5 + c6 + c7, c5 + c6 + c7, c6 + c7, c7] := by simp only [val]; omega
  simp only [val] at q3
  have e3 : y3 = val [c0 + c1 + c2 + c3 + c4 + c5 + c6 + c7, c1 + c2 + c3 + c4 + c5 + c6 + c7, c2 + c3 + c4 + c5 + c6 + c7, c3 + c4 + c5 + c6 + c7, c4 + c5 + c6 + c7, c5 + c6 + c7, c6 + c7, c7] := by simp only [val]; omega
  clear hy3 q3 e2
  simp only [val] at e3
  constructor <;> omega

end Go.Sx.M
end

section
/-
  Plain mathematics: how many bits of two words are set, counted from the left. No program.
-/
namespace Go.Sx.M

/-- How many of the first n are true. -/
def cf (f : Nat → Bool) : Nat → Nat
  | 0 => 0
  | n + 1 => cf f n + (if f n then 1 else 0)

theorem cf_first (f : Nat → Bool) : ∀ n, cf f (n + 1) = (if f 0 then 1 else 0) + cf (fun i => f (i + 1)) n
  | 0 => by simp [cf]
  | n + 1 => by
    have ih := cf_first f n
    rw [show cf f (n + 1 + 1) = cf f (n + 1) + (if f (n + 1) then 1 else 0) from rfl, ih]
    simp only [cf]
    omega

theorem cf_add (f : Nat → Bool) (m : Nat) : ∀ n, cf f (m + n) = cf f m + cf (fun i => f (m + i)) n
  | 0 => rfl
  | n + 1 => by
    rw [show cf f (m + (n + 1)) = cf f (m + n) + (if f (m + n) then 1 else 0) from rfl, cf_add f m n]
    simp only [cf]; omega

end Go.Sx.M
end

section
/-
  Plain mathematics: the first bit that differs; two words as one number. No program.
-/
namespace Go.Sx.M

structure IsCom (f g : Nat → Bool) (n : Nat) : Prop where
  le : n ≤ 128
  same : ∀ i, i < n → f i = g i
  other : n < 128 → f n ≠ g n

theorem IsCom.uniq {f g : Nat → Bool} {n m : Nat} (h : IsCom f g n) (h' : IsCom f g m) : n = m := by
  rcases Nat.lt_trichotomy n m with hlt | h0 | hlt
  · exact absurd (h'.same n hlt) (h.other (by have := h'.le; omega))
  · exact h0
  · exact absurd (h.same m hlt) (h'.other (by have := h.le; omega))

theorem IsCom.symm {f g : Nat → Bool} {n : Nat} (h : IsCom f g n) : IsCom g f n := ⟨h.le, fun i hi => (h.same i hi).symm, fun hn e => h.other hn e.symm⟩

/-- Two words as one number. -/
def V (a b : BitVec 64) : Nat := a.toNat * 2 ^ 64 + b.toNat

theorem bitAt_eq {a b c d : BitVec 64} (h : ∀ k, k < 128 → bitAt a b k = bitAt c d k) : a = c ∧ b = d := by
  refine ⟨msb_eq fun i hi => ?_, msb_eq fun i hi => ?_⟩
  · have := h i (by omega)
    unfold bitAt at this
    rwa [if_pos hi, if_pos hi] at this
  · have := h (64 + i) (by omega)
    unfold bitAt at this
    rwa [if_neg (by omega), if_neg (by omega), Nat.add_sub_cancel_left] at this

/-- Which of two numbers is the greater one. -/
def cmpV (m n : Nat) : Int := if m = n then 0 else if m < n then -1 else 1

end Go.Sx.M
end

section
/-
  Plain mathematics for words: bit by bit of two words of 64 bits. No program.
-/
namespace Go.Sx.M

theorem bitAt_and (a b c d : BitVec 64) (k : Nat) : bitAt (a &&& c) (b &&& d) k = (bitAt a b k && bitAt c d k) := by
  unfold bitAt; split <;> rw [BitVec.getMsbD_and]

theorem bitAt_or (a b c d : BitVec 64) (k : Nat) : bitAt (a ||| c) (b ||| d) k = (bitAt a b k || bitAt c d k) := by
  unfold bitAt; split <;> rw [BitVec.getMsbD_or]

theorem bitAt_xor (a b c d : BitVec 64) (k : Nat) : bitAt (a ^^^ c) (b ^^^ d) k = (bitAt a b k ^^ bitAt c d k) := by
  unfold bitAt; split <;> rw [BitVec.getMsbD_xor]

theorem bitAt_zero (k : Nat) : bitAt 0#64 0#64 k = false := by
  unfold bitAt; split <;> simp

theorem pair_beq {a b c d : BitVec 64} : (a == c && b == d) = true ↔ ∀ k, k < 128 → bitAt a b k = bitAt c d k := by
  rw [Bool.and_eq_true, beq_iff_eq, beq_iff_eq]
  exact ⟨fun ⟨h1, h2⟩ k _ => by rw [h1, h2], fun h => bitAt_eq h⟩

/-- Does the word v w, with the mask m n, match a b? -/
def wmB (v w m n a b : BitVec 64) : Bool := a &&& m == v &&& m && b &&& n == w &&& n

theorem wmB_iff {v w m n a b : BitVec 64} : wmB v w m n a b = true ↔ ∀ k, k < 128 → bitAt m n k = true → bitAt v w k = bitAt a b k := by
  unfold wmB
  rw [pair_beq]
  refine ⟨fun h k hk hm => ?_, fun h k hk => ?_⟩
  · have := h k hk
    rw [bitAt_and, bitAt_and, hm] at this
    simpa using this.symm
  · rw [bitAt_and, bitAt_and]
    cases hm : bitAt m n k with
    | true => rw [h k hk hm]
    | false => simp

/-- Is there one that both match? -/
def wtB (v w m n c d p q : BitVec 64) : Bool := (v ^^^ c) &&& (m &&& p) == 0#64 && (w ^^^ d) &&& (n &&& q) == 0#64

theorem wtB_iff {v w m n c d p q : BitVec 64} : wtB v w m n c d p q = true ↔ ∀ k, k < 128 → bitAt m n k = true → bitAt p q k = true → bitAt v w k = bitAt c d k := by
  unfold wtB
  rw [pair_beq]
  refine ⟨fun h k hk h1 h2 => ?_, fun h k hk => ?_⟩
  · have := h k hk
    rw [bitAt_and, bitAt_and, bitAt_xor, bitAt_zero, h1, h2] at this
    revert this
    cases bitAt v w k <;> cases bitAt c d k <;> simp
  · rw [bitAt_and, bitAt_and, bitAt_xor, bitAt_zero]
    cases h1 : bitAt m n k with
    | false => simp
    | true => cases h2 : bitAt p q k with
      | false => simp
      | true => rw [h k hk h1 h2]; simp

/-- A word, or nothing. -/
def selW (b : Bool) (x : BitVec 64) : BitVec 64 := if b then x else 0#64

end Go.Sx.M
end

section
/-
  Plain mathematics: an address that a word matches, with the bits of a number where it is free. No program.
-/
namespace Go.Sx.M

/-- How many bits behind bit i are free. -/
def fr (m n : BitVec 64) (i : Nat) : Nat := cf (fun j => !bitAt m n (127 - j)) (127 - i)

/-- Bit i of that address. -/
def smB (v w m n X : BitVec 64) (i : Nat) : Bool := if bitAt m n i then bitAt v w i else X.toNat.testBit (fr m n i)

/-- Its word from bit o on. -/
def smW (v w m n X : BitVec 64) (o : Nat) : BitVec 64 := W (fun i => smB v w m n X (o + i)) 64

theorem bitAt_W (f : Nat → Bool) {k : Nat} (hk : k < 128) : bitAt (W (fun i => f (0 + i)) 64) (W (fun i => f (64 + i)) 64) k = f k := by
  unfold bitAt
  split
  · rename_i h; rw [W_msb _ h]; congr 1; omega
  · rw [W_msb _ (by omega)]; congr 1; omega

theorem bitAt_sm (v w m n X : BitVec 64) {k : Nat} (hk : k < 128) : bitAt (smW v w m n X 0) (smW v w m n X 64) k = smB v w m n X k := bitAt_W _ hk

theorem fr_step {m n : BitVec 64} {k : Nat} (hk : k < 127) : fr m n k = fr m n (k + 1) + (if bitAt m n (k + 1) then 0 else 1) := by
  unfold fr
  rw [show 127 - k = (127 - (k + 1)) + 1 from by omega]
  have e : (!bitAt m n (127 - (127 - (k + 1)))) = !bitAt m n (k + 1) := by congr 2; omega
  show cf _ _ + (if (!bitAt m n (127 - (127 - (k + 1)))) = true then 1 else 0) = _
  simp only [e]
  cases bitAt m n (k + 1) <;> simp

theorem fr_last (m n : BitVec 64) : fr m n 127 = 0 := rfl

theorem cf_mono (f : Nat → Bool) : ∀ {a b : Nat}, a ≤ b → cf f a ≤ cf f b
  | a, b, h => by
    obtain ⟨d, rfl⟩ := Nat.exists_eq_add_of_le h
    rw [cf_add]; omega

theorem fr_mono {m n : BitVec 64} {i k : Nat} (h : i ≤ k) : fr m n k ≤ fr m n i := cf_mono _ (by omega)

theorem half_bit (l : BitVec 64) (x c : Nat) (h : l.toNat = x / 2 ^ c) : (l &&& BitVec.ofInt 64 1 == BitVec.ofInt 64 1) = x.testBit c ∧ (l % BitVec.ofInt 64 2 == BitVec.ofInt 64 1) = x.testBit c ∧
    (l >>> Int.toNat 1).toNat = x / 2 ^ (c + 1) ∧ (l / BitVec.ofInt 64 2).toNat = x / 2 ^ (c + 1) := by
  have e : x.testBit c = decide (l.toNat % 2 = 1) := by rw [Nat.testBit_eq_decide_div_mod_eq, h]
  have d : x / 2 ^ (c + 1) = l.toNat / 2 := by rw [h, Nat.pow_succ, Nat.div_div_eq_div_mul]
  have n1 : (BitVec.ofInt 64 1).toNat = 1 := by decide
  have n2 : (BitVec.ofInt 64 2).toNat = 2 := by decide
  rw [e, d]
  refine ⟨?_, ?_, ?_, ?_⟩
  · rw [Bool.eq_iff_iff, beq_iff_eq, decide_eq_true_eq, ← BitVec.toNat_inj, BitVec.toNat_and, n1, Nat.and_one_is_mod]
  · rw [Bool.eq_iff_iff, beq_iff_eq, decide_eq_true_eq, ← BitVec.toNat_inj, BitVec.toNat_umod, n1, n2]
  · rw [BitVec.toNat_ushiftRight, Nat.shiftRight_eq_div_pow]; rfl
  · rw [BitVec.toNat_udiv, n2]

theorem smB_end {v w m n X : BitVec 64} {i k : Nat} (h : i ≤ k) (h0 : X.toNat / 2 ^ fr m n k = 0) : smB v w m n X i = (bitAt v w i && bitAt m n i) := by
  unfold smB
  cases hm : bitAt m n i with
  | true => simp
  | false =>
    simp only [Bool.and_false, Bool.false_eq_true, if_false]
    refine Nat.testBit_lt_two_pow (Nat.lt_of_lt_of_le ?_ (Nat.pow_le_pow_right (by omega) (fr_mono h)))
    have hp : 0 < 2 ^ fr m n k := Nat.two_pow_pos _
    rcases (Nat.div_eq_zero_iff).1 h0 with h1 | h1
    · omega
    · exact h1

theorem sm_match (v w m n X : BitVec 64) : wmB v w m n (smW v w m n X 0) (smW v w m n X 64) = true := by
  rw [wmB_iff]
  intro k hk hm
  rw [bitAt_sm _ _ _ _ _ hk]
  unfold smB
  rw [if_pos hm]

end Go.Sx.M
end

section
/-
  Plain mathematics: entries, rows of entries: which one is the first, which the best one. No program.
-/
namespace Go.Sx.M

/-- An entry: a word's value and mask, its length, its action. -/
structure En where
  v : BitVec 64
  w : BitVec 64
  m : BitVec 64
  n : BitVec 64
  len : Int
  act : Int
  deriving DecidableEq, Inhabited

/-- Does its word match? -/
def mtE (x : En) (a b : BitVec 64) : Bool := wmB x.v x.w x.m x.n a b

/-- Is there an address that both match? -/
def meE (x y : En) : Bool := wtB x.v x.w x.m x.n y.v y.w y.m y.n

/-- Must the one stand above the other one? -/
def abE (x y : En) : Bool := decide (x.len > y.len) && meE x y

/-- Element k of a row. -/
def at' {T : Type} [Inhabited T] (l : List T) (k : Nat) : T := l.getD k default

theorem at_get {T : Type} [Inhabited T] {l : List T} {k : Nat} (h : k < l.length) : l[k]? = some (at' l k) := by
  unfold at'; rw [List.getD_eq_getElem?_getD, List.getElem?_eq_getElem h]; rfl

/-- The first one from k on, n of them looked at; -1: there is none. -/
def fsG (p : En → Bool) (l : List En) : Nat → Nat → Int
  | 0, _ => -1
  | n + 1, k => if p (at' l k) then (k : Int) else fsG p l n (k + 1)

/-- The first one that matches; -1: there is none. -/
def fsI (l : List En) (a b : BitVec 64) : Int := fsG (fun x => mtE x a b) l l.length 0

/-- It is the first one that matches, or there is none. -/
def FirstAt (l : List En) (a b : BitVec 64) (r : Int) : Prop :=
  (r = -1 ∧ ∀ j, j < l.length → mtE (at' l j) a b = false) ∨ ∃ i : Nat, r = i ∧ i < l.length ∧ mtE (at' l i) a b = true ∧ ∀ j, j < i → mtE (at' l j) a b = false

theorem FirstAt.uniq {l : List En} {a b : BitVec 64} {r s : Int} (h : FirstAt l a b r) (h' : FirstAt l a b s) : r = s := by
  rcases h with ⟨rfl, h⟩ | ⟨i, rfl, hi, h1, h2⟩ <;> rcases h' with ⟨rfl, g⟩ | ⟨k, rfl, hk, g1, g2⟩
  · rfl
  · rw [h k hk] at g1; cases g1
  · rw [g i hi] at h1; cases h1
  · rcases Nat.lt_trichotomy i k with h | h | h
    · rw [g2 i h] at h1; cases h1
    · rw [h]
    · rw [h2 k h] at g1; cases g1

/-- The best one of the last n; -1: none matches. -/
def bsG (l : List En) (a b : BitVec 64) : Nat → Int
  | 0 => -1
  | n + 1 => if mtE (at' l (l.length - 1 - n)) a b && (decide (bsG l a b n < 0) || decide ((at' l (l.length - 1 - n)).len ≥ (at' l (bsG l a b n).toNat).len)) then ((l.length - 1 - n : Nat) : Int) else bsG l a b n

/-- The best one; -1: none matches. -/
def bsI (l : List En) (a b : BitVec 64) : Int := bsG l a b l.length

/-- Of those from k on it is the best one, or none matches. -/
def BestFrom (l : List En) (a b : BitVec 64) (k : Nat) (r : Int) : Prop :=
  (r = -1 ∧ ∀ j, k ≤ j → j < l.length → mtE (at' l j) a b = false) ∨
  ∃ i : Nat, r = i ∧ k ≤ i ∧ i < l.length ∧ mtE (at' l i) a b = true ∧ ∀ j, k ≤ j → j < l.length → mtE (at' l j) a b = true → (at' l j).len ≤ (at' l i).len ∧ (j < i → (at' l j).len < (at' l i).len)

theorem bsG_spec (l : List En) (a b : BitVec 64) : ∀ n, n ≤ l.length → BestFrom l a b (l.length - n) (bsG l a b n)
  | 0, _ => .inl ⟨rfl, fun j h1 h2 => by omega⟩
  | n + 1, hn => by
    have ih := bsG_spec l a b n (by omega)
    generalize hr : bsG l a b n = r at ih
    have e1 : l.length - (n + 1) = l.length - 1 - n := by omega
    have e2 : l.length - n = (l.length - 1 - n) + 1 := by omega
    rw [e2] at ih
    rw [e1]
    unfold bsG
    rw [hr]
    generalize hk : l.length - 1 - n = k at *
    have hkl : k < l.length := by omega
    cases hm : mtE (at' l k) a b with
    | false =>
      simp only [Bool.false_and, Bool.false_eq_true, if_false]
      rcases ih with ⟨h1, h2⟩ | ⟨i, h1, h2, h3, h4, h5⟩
      · left
        refine ⟨h1, fun j h3 h4 => ?_⟩
        rcases Nat.lt_or_eq_of_le h3 with h | rfl
        · exact h2 j h h4
        · exact hm
      · right
        refine ⟨i, h1, by omega, h3, h4, fun j h6 h7 h8 => ?_⟩
        rcases Nat.lt_or_eq_of_le h6 with h | rfl
        · exact h5 j h h7 h8
        · rw [hm] at h8; cases h8
    | true =>
      rcases ih with ⟨rfl, h2⟩ | ⟨i, rfl, h2, h3, h4, h5⟩
      · right
        refine ⟨k, by simp, Nat.le_refl _, hkl, hm, fun j h6 h7 h8 => ?_⟩
        rcases Nat.lt_or_eq_of_le h6 with h | rfl
        · rw [h2 j h h7] at h8; cases h8
        · exact ⟨Int.le_refl _, fun h => by omega⟩
      · have e3 : ((i : Int)).toNat = i := by omega
        rw [e3, show decide ((i : Int) < 0) = false from by simp]
        simp only [Bool.true_and, Bool.false_or]
        by_cases hl : (at' l k).len ≥ (at' l i).len
        · rw [if_pos (by simpa using hl)]
          right
          refine ⟨k, rfl, Nat.le_refl _, hkl, hm, fun j h6 h7 h8 => ?_⟩
          rcases Nat.lt_or_eq_of_le h6 with h | rfl
          · have := (h5 j h h7 h8).1
            exact ⟨by omega, fun h' => by omega⟩
          · exact ⟨Int.le_refl _, fun h => by omega⟩
        · rw [if_neg (by simpa using hl)]
          right
          refine ⟨i, rfl, by omega, h3, h4, fun j h6 h7 h8 => ?_⟩
          rcases Nat.lt_or_eq_of_le h6 with h | rfl
          · exact h5 j h h7 h8
          · exact ⟨by omega, fun _ => by omega⟩

theorem bsI_spec (l : List En) (a b : BitVec 64) : BestFrom l a b 0 (bsI l a b) := by
  have := bsG_spec l a b l.length (Nat.le_refl _)
  rwa [Nat.sub_self] at this

theorem BestFrom.uniq {l : List En} {a b : BitVec 64} {r s : Int} (h : BestFrom l a b 0 r) (h' : BestFrom l a b 0 s) : r = s := by
  rcases h with ⟨rfl, h⟩ | ⟨i, rfl, _, hi, h1, h2⟩ <;> rcases h' with ⟨rfl, g⟩ | ⟨k, rfl, _, hk, g1, g2⟩
  · rfl
  · rw [h k (by omega) hk] at g1; cases g1
  · rw [g i (by omega) hi] at h1; cases h1
  · have a1 := h2 k (by omega) hk g1
    have a2 := g2 i (by omega) hi h1
    rcases Nat.lt_trichotomy i k with h | h | h
    · have := a2.2 h; omega
    · rw [h]
    · have := a1.2 h; omega

/-- What is to be done: the best one's action; 0: none matches. -/
def tlI (l : List En) (a b : BitVec 64) : Int := if bsI l a b < 0 then 0 else (at' l (bsI l a b).toNat).act

/-- No one stands behind one that it must stand above. -/
def orE (l : List En) : Bool := decide (∀ i, i < l.length → ∀ k, k < l.length → i < k → abE (at' l k) (at' l i) = false)

theorem orE_iff {l : List En} : orE l = true ↔ ∀ i, i < l.length → ∀ k, k < l.length → i < k → abE (at' l k) (at' l i) = false := by
  unfold orE; rw [decide_eq_true_eq]

end Go.Sx.M
end

section
/-
  Plain mathematics: the order of entries, sorted rows. No program.
-/
namespace Go.Sx.M

/-- May an entry be? -/
def rtE (x : En) : Bool := (x.v &&& x.m == x.v && x.w &&& x.n == x.w) && (decide (x.len ≥ 0) && (decide (x.len ≤ 128) && (decide (x.act ≥ 1) && decide (x.act ≤ 255))))

/-- No less than 0. -/
def mx0 (n : Int) : Int := if 0 > n then 0 else n

def cmpZ (m n : Int) : Int := if m < n then -1 else if n < m then 1 else 0
def orZ (m n : Int) : Int := if m = 0 then n else m

/-- Which of two entries comes first: -1 the one, 1 the other one, 0: they are the same. -/
def cpE (x y : En) : Int := orZ (cmpZ y.len x.len) (orZ (cmpV (V x.v x.w) (V y.v y.w)) (orZ (cmpV (V x.m x.n) (V y.m y.n)) (cmpZ x.act y.act)))

end Go.Sx.M
end

section
/-
  Plain mathematics: rows of entries, looked at in their order: the best one; the least length; one behind another one. No program.
-/
namespace Go.Sx.M

/-- The best one of the first n, looked at in their order; -1: none matches. -/
def fbG (l : List En) (a b : BitVec 64) : Nat → Int
  | 0 => -1
  | n + 1 => if (decide (fbG l a b n < 0) || decide ((at' l n).len > (at' l (fbG l a b n).toNat).len)) && mtE (at' l n) a b then (n : Int) else fbG l a b n

theorem fbG_spec (l : List En) (a b : BitVec 64) : ∀ n, (fbG l a b n = -1 ∧ ∀ j, j < n → mtE (at' l j) a b = false) ∨
    ∃ i : Nat, fbG l a b n = i ∧ i < n ∧ mtE (at' l i) a b = true ∧ ∀ j, j < n → mtE (at' l j) a b = true → (at' l j).len ≤ (at' l i).len ∧ (j < i → (at' l j).len < (at' l i).len)
  | 0 => .inl ⟨rfl, fun j h => by omega⟩
  | n + 1 => by
    have ih := fbG_spec l a b n
    unfold fbG
    generalize fbG l a b n = r at ih
    cases hm : mtE (at' l n) a b with
    | false =>
      rw [Bool.and_false, if_neg (by simp)]
      rcases ih with ⟨h1, h2⟩ | ⟨i, h1, h2, h3, h4⟩
      · exact .inl ⟨h1, fun j hj => by
          rcases Nat.lt_or_eq_of_le (Nat.le_of_lt_succ hj) with h | rfl
          · exact h2 j h
          · exact hm⟩
      · exact .inr ⟨i, h1, by omega, h3, fun j hj hj2 => by
          rcases Nat.lt_or_eq_of_le (Nat.le_of_lt_succ hj) with h | rfl
          · exact h4 j h hj2
          · rw [hm] at hj2; cases hj2⟩
    | true =>
      rw [Bool.and_true]
      rcases ih with ⟨rfl, h2⟩ | ⟨i, rfl, h2, h3, h4⟩
      · rw [if_pos (by simp)]
        exact .inr ⟨n, rfl, by omega, hm, fun j hj hj2 => by
          rcases Nat.lt_or_eq_of_le (Nat.le_of_lt_succ hj) with h | rfl
          · rw [h2 j h] at hj2; cases hj2
          · exact ⟨Int.le_refl _, fun h => by omega⟩⟩
      · have e3 : ((i : Int)).toNat = i := by omega
        rw [e3, show decide ((i : Int) < 0) = false from by simp, Bool.false_or]
        by_cases hl : (at' l n).len > (at' l i).len
        · rw [if_pos (by simpa using hl)]
          exact .inr ⟨n, rfl, by omega, hm, fun j hj hj2 => by
            rcases Nat.lt_or_eq_of_le (Nat.le_of_lt_succ hj) with h | rfl
            · have := (h4 j h hj2).1
              exact ⟨by omega, fun _ => by omega⟩
            · exact ⟨Int.le_refl _, fun h => by omega⟩⟩
        · rw [if_neg (by simpa using hl)]
          exact .inr ⟨i, rfl, by omega, h3, fun j hj hj2 => by
            rcases Nat.lt_or_eq_of_le (Nat.le_of_lt_succ hj) with h | rfl
            · exact h4 j h hj2
            · exact ⟨by omega, fun h => by omega⟩⟩

theorem fbG_all (l : List En) (a b : BitVec 64) : fbG l a b l.length = bsI l a b := by
  refine BestFrom.uniq ?_ (bsI_spec l a b)
  rcases fbG_spec l a b l.length with ⟨h1, h2⟩ | ⟨i, h1, h2, h3, h4⟩
  · exact .inl ⟨h1, fun j _ hj => h2 j hj⟩
  · exact .inr ⟨i, h1, by omega, h2, h3, fun j _ hj hm => h4 j hj hm⟩

/-- None of the first n stands behind one that it must stand above. -/
def OrTo (l : List En) (n : Nat) : Prop := ∀ k, k < n → ∀ i, i < k → abE (at' l k) (at' l i) = false

theorem OrTo.all {l : List En} : orE l = true ↔ OrTo l l.length := by
  rw [orE_iff]
  exact ⟨fun h k hk i hi => h i (by omega) k hk hi, fun h i _ k hk hik => h k hk i hik⟩

theorem OrTo.next {l : List En} {n : Nat} (h : OrTo l n) (hs : ∀ i, i < n → abE (at' l n) (at' l i) = false) : OrTo l (n + 1) := fun k hk i hi => by
  rcases Nat.lt_or_eq_of_le (Nat.le_of_lt_succ hk) with h' | rfl
  · exact h k h' i hi
  · exact hs i hi

end Go.Sx.M
end

section
/-
  Plain mathematics: banks by the first bits of addresses. No program.
-/
namespace Go.Sx.M

/-- The best entry for an address, from the end on. -/
def beE (a b : BitVec 64) : List En → Option En
  | [] => none
  | x :: l => match beE a b l with
    | none => if mtE x a b = true then some x else none
    | some y => if mtE x a b = true ∧ y.len ≤ x.len then some x else some y

theorem beE_spec (a b : BitVec 64) : ∀ l : List En, (beE a b l = none ∧ ∀ j, j < l.length → mtE (at' l j) a b = false) ∨
    ∃ i, beE a b l = some (at' l i) ∧ i < l.length ∧ mtE (at' l i) a b = true ∧ ∀ j, j < l.length → mtE (at' l j) a b = true → (at' l j).len ≤ (at' l i).len ∧ (j < i → (at' l j).len < (at' l i).len)
  | [] => .inl ⟨rfl, fun j h => absurd h (Nat.not_lt_zero j)⟩
  | x :: l => by
    have e0 : at' (x :: l) 0 = x := rfl
    have eS : ∀ j, at' (x :: l) (j + 1) = at' l j := fun _ => rfl
    rcases beE_spec a b l with ⟨h1, h2⟩ | ⟨i, h1, hi, hm, h2⟩
    · rw [beE, h1]
      by_cases hx : mtE x a b = true
      · refine .inr ⟨0, if_pos hx, Nat.succ_pos _, hx, fun j hj hjm => ?_⟩
        cases j with
        | zero => exact ⟨Int.le_refl _, fun h => absurd h (Nat.lt_irrefl 0)⟩
        | succ j => rw [eS, h2 j (Nat.lt_of_succ_lt_succ hj)] at hjm; cases hjm
      · refine .inl ⟨if_neg hx, fun j hj => ?_⟩
        cases j with
        | zero => exact Bool.eq_false_iff.2 hx
        | succ j => exact h2 j (Nat.lt_of_succ_lt_succ hj)
    · rw [beE, h1]
      by_cases hx : mtE x a b = true ∧ (at' l i).len ≤ x.len
      · refine .inr ⟨0, if_pos hx, Nat.succ_pos _, hx.1, fun j hj hjm => ?_⟩
        cases j with
        | zero => exact ⟨Int.le_refl _, fun h => absurd h (Nat.lt_irrefl 0)⟩
        | succ j =>
          have := (h2 j (Nat.lt_of_succ_lt_succ hj) hjm).1
          exact ⟨Int.le_trans this hx.2, fun h => absurd h (Nat.not_lt_zero _)⟩
      · refine .inr ⟨i + 1, if_neg hx, Nat.succ_lt_succ hi, hm, fun j hj hjm => ?_⟩
        cases j with
        | zero =>
          have : ¬ (at' l i).len ≤ x.len := fun h => hx ⟨hjm, h⟩
          rw [e0, eS]
          exact ⟨by omega, fun _ => by omega⟩
        | succ j =>
          have := h2 j (Nat.lt_of_succ_lt_succ hj) hjm
          exact ⟨this.1, fun h => this.2 (by omega)⟩

theorem tlI_be (l : List En) (a b : BitVec 64) : tlI l a b = match beE a b l with | none => 0 | some y => y.act := by
  rcases beE_spec a b l with ⟨h1, h2⟩ | ⟨i, h1, hi, hm, h2⟩
  · have : bsI l a b = -1 := (bsI_spec l a b).uniq (.inl ⟨rfl, fun j _ hj => h2 j hj⟩)
    rw [h1]
    unfold tlI
    rw [this, if_pos (by decide)]
  · have : bsI l a b = i := (bsI_spec l a b).uniq (.inr ⟨i, rfl, Nat.zero_le _, hi, hm, fun j _ hj hjm => h2 j hj hjm⟩)
    rw [h1]
    unfold tlI
    rw [this, if_neg (by omega), Int.toNat_natCast]

/-- What is left out of a row matches nothing: it tells the same. -/
theorem tlI_filter {p : En → Bool} {l : List En} {a b : BitVec 64} (h : ∀ x ∈ l, mtE x a b = true → p x = true) : tlI (l.filter p) a b = tlI l a b := by
  rw [tlI_be, tlI_be]
  have : beE a b (l.filter p) = beE a b l := by
    induction l with
    | nil => rfl
    | cons x l ih =>
      have ih := ih fun y hy => h y (List.mem_cons_of_mem _ hy)
      by_cases hp : p x = true
      · rw [List.filter_cons_of_pos hp, beE, beE, ih]
      · have hx : ¬ mtE x a b = true := fun hm => hp (h x List.mem_cons_self hm)
        rw [List.filter_cons_of_neg hp, ih, beE]
        cases beE a b l with
        | none => exact (if_neg hx).symm
        | some y => exact (if_neg fun hh => hx hh.1).symm
  rw [this]

/-- May an index be; how many banks it has. -/
def rtI (k : Int) : Bool := decide (0 ≤ k) && decide (k ≤ 3)
def mnI (k : Int) : Int := if rtI k then 2 ^ k.toNat else 0

theorem rtI_iff {k : Int} : rtI k = true ↔ 0 ≤ k ∧ k ≤ 3 := by
  unfold rtI
  rw [Bool.and_eq_true, decide_eq_true_eq, decide_eq_true_eq]

/-- The number that the first k bits form. -/
def ofN (a : BitVec 64) : Nat → Nat
  | 0 => 0
  | k + 1 => 2 * ofN a k + (a.getMsbD k).toNat
def ofI (k : Int) (a : BitVec 64) : Int := if rtI k then (ofN a k.toNat : Int) else 0

theorem ofN_lt (a : BitVec 64) : ∀ k, ofN a k < 2 ^ k
  | 0 => Nat.one_pos
  | k + 1 => by
    have := ofN_lt a k
    have hb : (a.getMsbD k).toNat ≤ 1 := by cases a.getMsbD k <;> decide
    rw [ofN, Nat.pow_succ]
    omega

theorem ofN_bit (a : BitVec 64) : ∀ k i, i < k → (ofN a k).testBit (k - 1 - i) = a.getMsbD i
  | 0, i, h => absurd h (Nat.not_lt_zero i)
  | k + 1, i, h => by
    rw [ofN]
    have hb : (a.getMsbD k).toNat ≤ 1 := by cases a.getMsbD k <;> decide
    by_cases e : i = k
    · subst e
      rw [show i + 1 - 1 - i = 0 from by omega, Nat.testBit_zero]
      cases a.getMsbD i with
      | false => exact decide_eq_false (by show ¬ (2 * ofN a i + 0) % 2 = 1; omega)
      | true => exact decide_eq_true (by show (2 * ofN a i + 1) % 2 = 1; omega)
    · have ih := ofN_bit a k i (by omega)
      rw [show k + 1 - 1 - i = (k - 1 - i) + 1 from by omega, Nat.testBit_succ, show (2 * ofN a k + (a.getMsbD k).toNat) / 2 = ofN a k from by omega]
      exact ih

/-- Does a word (of its first half) have to do with a bank? The banks that it has to do with. -/
def okI (k : Nat) (v m : BitVec 64) (j : Nat) : Bool := (List.range k).all fun i => !m.getMsbD i || v.getMsbD i == j.testBit (k - 1 - i)
def bkN (k : Nat) (v m : BitVec 64) : List Nat := (List.range (2 ^ k)).filter (okI k v m)
def bkI (k : Int) (v m : BitVec 64) : List Int := if rtI k then (bkN k.toNat v m).map Int.ofNat else []

theorem okI_iff {k : Nat} {v m : BitVec 64} {j : Nat} : okI k v m j = true ↔ ∀ i, i < k → m.getMsbD i = true → v.getMsbD i = j.testBit (k - 1 - i) := by
  unfold okI
  rw [List.all_eq_true]
  refine ⟨fun h i hi hm => ?_, fun h i hi => ?_⟩
  · have := h i (List.mem_range.2 hi)
    rw [hm] at this
    simpa using this
  · cases hm : m.getMsbD i with
    | false => rfl
    | true => simpa using h i (List.mem_range.1 hi) hm

theorem mem_bkN {k : Nat} {v m : BitVec 64} {j : Nat} : j ∈ bkN k v m ↔ j < 2 ^ k ∧ okI k v m j = true := by
  unfold bkN
  rw [List.mem_filter, List.mem_range]

theorem mem_bkI {k : Int} (hk : rtI k = true) {v m : BitVec 64} {j : Int} : j ∈ bkI k v m ↔ ∃ n, j = Int.ofNat n ∧ n < 2 ^ k.toNat ∧ okI k.toNat v m n = true := by
  unfold bkI
  rw [if_pos hk, List.mem_map]
  exact ⟨fun ⟨n, h1, h2⟩ => ⟨n, h2.symm, mem_bkN.1 h1⟩, fun ⟨n, h1, h2⟩ => ⟨n, mem_bkN.2 h2, h1.symm⟩⟩

theorem bkN_nodup (k : Nat) (v m : BitVec 64) : (bkN k v m).Nodup := List.nodup_range.filter _

theorem bkI_nodup (k : Int) (v m : BitVec 64) : (bkI k v m).Nodup := by
  unfold bkI
  split
  · exact List.pairwise_map.2 ((bkN_nodup _ v m).imp fun h e => h (Int.ofNat.inj e))
  · exact List.Pairwise.nil

/-- A word has to do with the bank of what it says itself: so with one at least. -/
theorem bkI_pos {k : Int} (hk : rtI k = true) (v m : BitVec 64) : Int.ofNat (ofN v k.toNat) ∈ bkI k v m :=
  (mem_bkI hk).2 ⟨_, rfl, ofN_lt v _, okI_iff.2 fun i hi _ => (ofN_bit v _ i hi).symm⟩

/-- What a word matches is of a bank that it has to do with. -/
theorem bkI_match {k : Int} (hk : rtI k = true) {x : En} {a b : BitVec 64} (h : mtE x a b = true) : ofI k a ∈ bkI k x.v x.m := by
  obtain ⟨h0, h3⟩ := rtI_iff.1 hk
  unfold ofI
  rw [if_pos hk]
  refine (mem_bkI hk).2 ⟨_, rfl, ofN_lt a _, okI_iff.2 fun i hi hm => ?_⟩
  have := wmB_iff.1 h i (by omega) (by unfold bitAt; rw [if_pos (by omega)]; exact hm)
  unfold bitAt at this
  rw [if_pos (by omega), if_pos (by omega)] at this
  rw [ofN_bit a _ i hi]
  exact this

/-- A bank's part of a row; how often entries stand more than once. -/
def ptX (k j : Int) (x : En) : List En := ((bkI k x.v x.m).filter (· == j)).map fun _ => x
def ptI (k j : Int) (l : List En) : List En := l.flatMap (ptX k j)
def cpI (k : Int) (l : List En) : Int := (l.map fun x => max (((bkI k x.v x.m).length : Int) - 1) 0).sum

theorem count_nodup {l : List Int} (h : l.Nodup) (j : Int) : l.filter (· == j) = if j ∈ l then [j] else [] := by
  induction l with
  | nil => rfl
  | cons y l ih =>
    obtain ⟨h1, h2⟩ := List.nodup_cons.1 h
    by_cases e : y = j
    · subst e
      rw [List.filter_cons_of_pos (by simp), ih h2, if_neg h1, if_pos List.mem_cons_self]
    · rw [List.filter_cons_of_neg (by simpa using e), ih h2]
      by_cases hj : j ∈ l
      · rw [if_pos hj, if_pos (List.mem_cons_of_mem _ hj)]
      · rw [if_neg hj, if_neg fun h => (List.mem_cons.1 h).elim (fun h => e h.symm) hj]

theorem ptX_if (k j : Int) (x : En) : ptX k j x = if j ∈ bkI k x.v x.m then [x] else [] := by
  unfold ptX
  rw [count_nodup (bkI_nodup k x.v x.m)]
  split <;> rfl

theorem ptI_filter (k j : Int) (l : List En) : ptI k j l = l.filter fun x => decide (j ∈ bkI k x.v x.m) := by
  unfold ptI
  induction l with
  | nil => rfl
  | cons x l ih =>
    rw [List.flatMap_cons, ih, ptX_if]
    by_cases h : j ∈ bkI k x.v x.m
    · rw [if_pos h, List.filter_cons_of_pos (by simpa using h)]; rfl
    · rw [if_neg h, List.filter_cons_of_neg (by simpa using h)]; rfl

theorem ptI_length (k j : Int) (l : List En) : (ptI k j l).length ≤ l.length := by
  rw [ptI_filter]
  exact List.length_filter_le _ _

/-- What a bank's part tells of its addresses is what the row tells. -/
theorem ptI_tell {k : Int} (hk : rtI k = true) (l : List En) (a b : BitVec 64) : tlI (ptI k (ofI k a) l) a b = tlI l a b := by
  rw [ptI_filter]
  exact tlI_filter fun x _ hm => by simpa using bkI_match hk hm

theorem bkI_length (k : Int) (v m : BitVec 64) : (bkI k v m).length ≤ 8 := by
  unfold bkI
  split
  · rename_i hk
    obtain ⟨h0, h3⟩ := rtI_iff.1 hk
    rw [List.length_map]
    have h1 : (bkN k.toNat v m).length ≤ 2 ^ k.toNat := by
      unfold bkN
      exact Nat.le_trans (List.length_filter_le _ _) (by rw [List.length_range]; exact Nat.le_refl _)
    have h2 : 2 ^ k.toNat ≤ 2 ^ 3 := Nat.pow_le_pow_right (by decide) (by omega)
    omega
  · exact Nat.zero_le _

theorem ite_iff {p q : Prop} [Decidable p] [Decidable q] (h : p ↔ q) (a b : Nat) : (if p then a else b) = if q then a else b := by
  by_cases hp : p
  · rw [if_pos hp, if_pos (h.1 hp)]
  · rw [if_neg hp, if_neg fun hq => hp (h.2 hq)]

/-- The parts of all banks have each entry as often as it has to do with banks. -/
theorem pt_all {k : Int} (hk : rtI k = true) (l : List En) : ∀ n, n ≤ 2 ^ k.toNat → (((List.range n).map fun j => (ptI k (Int.ofNat j) l).length).sum) = (l.map fun x => ((bkN k.toNat x.v x.m).filter fun j => decide (j < n)).length).sum
  | 0, _ => by
    rw [List.range_zero, List.map_nil, List.sum_nil]
    induction l with
    | nil => rfl
    | cons x l ih =>
      rw [List.map_cons, List.sum_cons, ← ih, List.filter_eq_nil_iff.2 fun j _ => by simp]; rfl
  | n + 1, hn => by
    rw [List.range_succ, List.map_append, List.sum_append, pt_all hk l n (by omega), List.map_cons, List.map_nil, List.sum_cons, List.sum_nil, Nat.add_zero, ptI_filter]
    induction l with
    | nil => rfl
    | cons x l ih =>
      rw [List.map_cons, List.map_cons, List.sum_cons, List.sum_cons, ← ih]
      have e : ((bkN k.toNat x.v x.m).filter fun j => decide (j < n + 1)).length = ((bkN k.toNat x.v x.m).filter fun j => decide (j < n)).length + (if (Int.ofNat n) ∈ bkI k x.v x.m then 1 else 0) := by
        have hm : (Int.ofNat n) ∈ bkI k x.v x.m ↔ n ∈ bkN k.toNat x.v x.m := by
          rw [mem_bkI hk, mem_bkN]
          exact ⟨fun ⟨i, h1, h2⟩ => by cases h1; exact h2, fun h => ⟨n, rfl, h⟩⟩
        rw [ite_iff hm]
        have hd := bkN_nodup k.toNat x.v x.m
        generalize bkN k.toNat x.v x.m = B at hd
        induction B with
        | nil => rfl
        | cons y B ihB =>
          obtain ⟨d1, d2⟩ := List.nodup_cons.1 hd
          have ihB := ihB d2
          rw [List.filter_cons, List.filter_cons]
          rcases Nat.lt_trichotomy y n with h | h | h
          · rw [if_pos (by simp; omega), if_pos (by simp; omega), List.length_cons, List.length_cons, ihB, ite_iff (show n ∈ y :: B ↔ n ∈ B from ⟨fun h' => (List.mem_cons.1 h').resolve_left (by omega), List.mem_cons_of_mem _⟩)]
            omega
          · subst h
            rw [if_pos (by simp), if_neg (by simp), List.length_cons, ihB, if_neg d1, if_pos List.mem_cons_self]
          · rw [if_neg (by simp; omega), if_neg (by simp; omega), ihB, ite_iff (show n ∈ y :: B ↔ n ∈ B from ⟨fun h' => (List.mem_cons.1 h').resolve_left (by omega), List.mem_cons_of_mem _⟩)]
      rw [e, List.filter_cons]
      by_cases hx : Int.ofNat n ∈ bkI k x.v x.m
      · rw [if_pos (by simpa using hx), if_pos hx, List.length_cons]; omega
      · rw [if_neg (by simpa using hx), if_neg hx]; omega

theorem ofN_eq {a : BitVec 64} {k j : Nat} (hj : j < 2 ^ k) (h : ∀ i, i < k → a.getMsbD i = j.testBit (k - 1 - i)) : ofN a k = j := by
  refine Nat.eq_of_testBit_eq fun i => ?_
  by_cases hi : i < k
  · have := ofN_bit a k (k - 1 - i) (by omega)
    rw [show k - 1 - (k - 1 - i) = i from by omega] at this
    rw [this, h (k - 1 - i) (by omega), show k - 1 - (k - 1 - i) = i from by omega]
  · have hp : 2 ^ k ≤ 2 ^ i := Nat.pow_le_pow_right (by decide) (by omega)
    have := ofN_lt a k
    rw [Nat.testBit_lt_two_pow (by omega), Nat.testBit_lt_two_pow (by omega)]

/-- A word that fixes the first k bits to a number, and no other ones. -/
def FixW (c d p q : BitVec 64) (k j : Nat) : Prop := ∀ i, i < 128 → (bitAt p q i = true ↔ i < k) ∧ (i < k → bitAt c d i = j.testBit (k - 1 - i))

theorem bitAt_first {a b : BitVec 64} {i : Nat} (h : i < 64) : bitAt a b i = a.getMsbD i := by
  unfold bitAt
  rw [if_pos h]

theorem fix_meet {c d p q : BitVec 64} {k j : Nat} (hk : k ≤ 3) (hB : FixW c d p q k j) {v w m n : BitVec 64} (ho : okI k v m j = true) : wtB v w m n c d p q = true :=
  wtB_iff.2 fun i hi h1 h2 => by
    have hik := (hB i hi).1.1 h2
    rw [bitAt_first (by omega)] at h1 ⊢
    rw [(hB i hi).2 hik]
    exact okI_iff.1 ho i hik h1

theorem fix_some {c d p q : BitVec 64} {k j : Nat} (hk : k ≤ 3) (hj : j < 2 ^ k) (hB : FixW c d p q k j) {v w m n : BitVec 64} (ho : okI k v m j = true) (X : BitVec 64) :
    wmB v w m n (smW (v &&& m ||| c &&& p) (w &&& n ||| d &&& q) (m ||| p) (n ||| q) X 0) (smW (v &&& m ||| c &&& p) (w &&& n ||| d &&& q) (m ||| p) (n ||| q) X 64) = true ∧
    ofN (smW (v &&& m ||| c &&& p) (w &&& n ||| d &&& q) (m ||| p) (n ||| q) X 0) k = j := by
  have hs := wmB_iff.1 (sm_match (v &&& m ||| c &&& p) (w &&& n ||| d &&& q) (m ||| p) (n ||| q) X)
  have ht := wtB_iff.1 (fix_meet hk hB (w := w) (n := n) ho)
  generalize smW (v &&& m ||| c &&& p) (w &&& n ||| d &&& q) (m ||| p) (n ||| q) X 0 = a at hs ⊢
  generalize smW (v &&& m ||| c &&& p) (w &&& n ||| d &&& q) (m ||| p) (n ||| q) X 64 = b at hs ⊢
  refine ⟨wmB_iff.2 fun i hi hm => ?_, ofN_eq hj fun i hi => ?_⟩
  · have h1 := hs i hi (by rw [bitAt_or, hm, Bool.true_or])
    rw [bitAt_or, bitAt_and, bitAt_and, hm, Bool.and_true] at h1
    rw [← h1]
    cases hp : bitAt p q i with
    | false => rw [Bool.and_false, Bool.or_false]
    | true => rw [← ht i hi hm hp, Bool.and_true, Bool.or_self]
  · have hp : bitAt p q i = true := (hB i (by omega)).1.2 hi
    have h1 := hs i (by omega) (by rw [bitAt_or, hp, Bool.or_true])
    rw [bitAt_or, bitAt_and, bitAt_and, hp, Bool.and_true] at h1
    rw [← bitAt_first (b := b) (show i < 64 by omega), ← h1, ← (hB i (by omega)).2 hi]
    cases hm : bitAt m n i with
    | false => rw [Bool.and_false, Bool.false_or]
    | true => rw [ht i (by omega) hm hp, Bool.and_true, Bool.or_self]

/-- A number put ahead of all other bits. -/
theorem up_bit {k j i : Nat} (hk : k ≤ 3) (hi : i < k) : (BitVec.ofNat 64 j <<< (64 - k)).getMsbD i = (decide (k - 1 - i < 64) && j.testBit (k - 1 - i)) := by
  rw [BitVec.getMsbD, BitVec.getLsbD_shiftLeft, BitVec.getLsbD_ofNat]
  rw [show 64 - 1 - i - (64 - k) = k - 1 - i from by omega]
  have h1 : decide (i < 64) = true := decide_eq_true (by omega)
  have h2 : decide (64 - 1 - i < 64) = true := decide_eq_true (by omega)
  have h3 : decide (64 - 1 - i < 64 - k) = false := decide_eq_false (by omega)
  rw [h1, h2, h3]
  simp

end Go.Sx.M
end

section
/-
  Plain mathematics: what loops over banks keep. No program.
-/
namespace Go.Sx.M

/-- Has a word to do with a bank, as far as its bits from t on tell? -/
def okT (k : Nat) (v m : BitVec 64) (j t : Nat) : Bool := (List.range k).all fun i => decide (i < t) || (!m.getMsbD i || v.getMsbD i == j.testBit (k - 1 - i))

theorem okT_iff {k : Nat} {v m : BitVec 64} {j t : Nat} : okT k v m j t = true ↔ ∀ i, t ≤ i → i < k → m.getMsbD i = true → v.getMsbD i = j.testBit (k - 1 - i) := by
  unfold okT
  rw [List.all_eq_true]
  refine ⟨fun h i ht hi hm => ?_, fun h i hi => ?_⟩
  · have := h i (List.mem_range.2 hi)
    rw [hm, decide_eq_false (by omega)] at this
    simpa using this
  · by_cases ht : i < t
    · rw [decide_eq_true ht, Bool.true_or]
    · cases hm : m.getMsbD i with
      | false => rw [Bool.not_false, Bool.true_or, Bool.or_true]
      | true => simpa [ht] using h i (by omega) (List.mem_range.1 hi) hm

theorem okT_top (k : Nat) (v m : BitVec 64) (j : Nat) : okT k v m j k = true := okT_iff.2 fun i h1 h2 => absurd h1 (by omega)

theorem okT_zero (k : Nat) (v m : BitVec 64) (j : Nat) : okT k v m j 0 = okI k v m j :=
  Bool.eq_iff_iff.2 (okT_iff.trans ⟨fun h => okI_iff.2 fun i => h i (Nat.zero_le i), fun h i _ => okI_iff.1 h i⟩)

theorem okT_step {k : Nat} {v m : BitVec 64} {j t : Nat} (h : t < k) : okT k v m j t = (okT k v m j (t + 1) && (!m.getMsbD t || v.getMsbD t == j.testBit (k - 1 - t))) := by
  rw [Bool.eq_iff_iff, Bool.and_eq_true, okT_iff, okT_iff]
  refine ⟨fun hh => ⟨fun i h1 => hh i (by omega), ?_⟩, fun ⟨h1, h2⟩ i hi hk hm => ?_⟩
  · cases hm : m.getMsbD t with
    | false => rfl
    | true => simpa using hh t (Nat.le_refl t) h hm
  · by_cases e : i = t
    · subst e
      rw [hm] at h2
      simpa using h2
    · exact h1 i (by omega) hk hm

/-- The banks below n that a word has to do with. -/
def bkU (k : Nat) (v m : BitVec 64) (n : Nat) : List Nat := (List.range n).filter (okI k v m)

theorem bkU_succ (k : Nat) (v m : BitVec 64) (n : Nat) : bkU k v m (n + 1) = bkU k v m n ++ (if okI k v m n then [n] else []) := by
  unfold bkU
  rw [List.range_succ, List.filter_append]
  congr 1
  by_cases h : okI k v m n = true
  · rw [if_pos h, List.filter_cons_of_pos h]; rfl
  · rw [if_neg h, List.filter_cons_of_neg h]; rfl

theorem bkU_length (k : Nat) (v m : BitVec 64) (n : Nat) : (bkU k v m n).length ≤ n := by
  unfold bkU
  exact Nat.le_trans (List.length_filter_le _ _) (by rw [List.length_range]; exact Nat.le_refl _)

/-- A bit of a number, as a remainder tells. -/
theorem bit_rest (j n : Nat) : j.testBit n = decide (j / 2 ^ n % 2 = 1) := Nat.testBit_eq_decide_div_mod_eq

theorem rest_next {j k t : Nat} (h : t < k) : j / 2 ^ (k - 1 - t) / 2 = j / 2 ^ (k - t) := by
  rw [Nat.div_div_eq_div_mul, ← Nat.pow_succ, show (k - 1 - t).succ = k - t from by omega]

/-- Powers of two, quotients by them: named, so that nothing unfolds them. -/
def pwN (i : Nat) : Nat := 2 ^ i
def qN (j k t : Nat) : Nat := j / 2 ^ (k - t)

theorem qN_top (j k : Nat) : qN j k k = j := by
  unfold qN
  rw [Nat.sub_self, Nat.pow_zero, Nat.div_one]

theorem qN_next {j k t : Nat} (h : t < k) : qN j k (t + 1) / 2 = qN j k t := by
  unfold qN
  rw [show k - (t + 1) = k - 1 - t from by omega]
  exact rest_next h

theorem qN_bit {j k t : Nat} : decide (qN j k (t + 1) % 2 = 1) = j.testBit (k - 1 - t) := by
  unfold qN
  rw [bit_rest, show k - (t + 1) = k - 1 - t from by omega]

theorem qN_le (j k t : Nat) : qN j k t ≤ j := Nat.div_le_self _ _

/-- How long the parts of the first n banks are, together. -/
def smP (k : Int) (l : List En) (n : Nat) : Nat := ((List.range n).map fun j => (ptI k (Int.ofNat j) l).length).sum

theorem smP_succ (k : Int) (l : List En) (n : Nat) : smP k l (n + 1) = smP k l n + (ptI k (Int.ofNat n) l).length := by
  unfold smP
  rw [List.range_succ, List.map_append, List.sum_append, List.map_cons, List.map_nil, List.sum_cons, List.sum_nil, Nat.add_zero]

theorem smP_le (k : Int) (l : List En) : ∀ n, smP k l n ≤ n * l.length
  | 0 => Nat.zero_le _
  | n + 1 => by
    rw [smP_succ, Nat.succ_mul]
    exact Nat.add_le_add (smP_le k l n) (ptI_length k _ l)

theorem pow_small {k : Nat} (h : k ≤ 3) : 1 ≤ 2 ^ k ∧ 2 ^ k ≤ 8 := by
  rcases (show k = 0 ∨ k = 1 ∨ k = 2 ∨ k = 3 by omega) with rfl | rfl | rfl | rfl <;> decide

theorem pow_le {k : Nat} (h : k ≤ 3) : 2 ^ k ≤ 8 := (pow_small h).2

/-- What the first entries of a row count. -/
theorem cpI_succ [Inhabited En] {k : Int} {l : List En} {n : Nat} (h : n < l.length) : cpI k (l.take (n + 1)) = cpI k (l.take n) + max (((bkI k (at' l n).v (at' l n).m).length : Int) - 1) 0 := by
  unfold cpI
  have e : l.take (n + 1) = l.take n ++ [at' l n] := by
    rw [List.take_add_one, at_get h]; rfl
  rw [e, List.map_append, List.sum_append, List.map_cons, List.map_nil, List.sum_cons, List.sum_nil, Int.add_zero]

theorem cpI_bound (k : Int) : ∀ l : List En, 0 ≤ cpI k l ∧ cpI k l ≤ 8 * (l.length : Int)
  | [] => ⟨Int.le_refl _, Int.le_refl _⟩
  | x :: l => by
    have ih := cpI_bound k l
    have h1 : cpI k (x :: l) = max (((bkI k x.v x.m).length : Int) - 1) 0 + cpI k l := rfl
    have h2 := bkI_length k x.v x.m
    rw [h1, List.length_cons]
    omega

theorem ptI_succ [Inhabited En] {k j : Int} {l : List En} {n : Nat} (h : n < l.length) : ptI k j (l.take (n + 1)) = ptI k j (l.take n) ++ ptX k j (at' l n) := by
  unfold ptI
  have e : l.take (n + 1) = l.take n ++ [at' l n] := by
    rw [List.take_add_one, at_get h]; rfl
  rw [e, List.flatMap_append, List.flatMap_cons, List.flatMap_nil, List.append_nil]

/-- A bank's part, within an entry: of its first banks. -/
def ptQ (k j : Int) (x : En) (q : Nat) : List En := (((bkI k x.v x.m).take q).filter (· == j)).map fun _ => x

theorem ptQ_succ {k j : Int} {x : En} {q : Nat} (h : q < (bkI k x.v x.m).length) : ptQ k j x (q + 1) = ptQ k j x q ++ (if (bkI k x.v x.m).getD q 0 = j then [x] else []) := by
  unfold ptQ
  have e : (bkI k x.v x.m).take (q + 1) = (bkI k x.v x.m).take q ++ [(bkI k x.v x.m).getD q 0] := by
    rw [List.take_add_one, List.getD_eq_getElem?_getD, List.getElem?_eq_getElem h]; rfl
  rw [e, List.filter_append, List.map_append]
  congr 1
  by_cases hj : (bkI k x.v x.m).getD q 0 = j
  · rw [if_pos hj, List.filter_cons_of_pos (by simpa using hj)]; rfl
  · rw [if_neg hj, List.filter_cons_of_neg (by simpa using hj)]; rfl

theorem ptQ_all (k j : Int) (x : En) : ptQ k j x (bkI k x.v x.m).length = ptX k j x := by
  unfold ptQ ptX
  rw [List.take_length]

theorem ptQ_length (k j : Int) (x : En) (q : Nat) : (ptQ k j x q).length ≤ 8 := by
  unfold ptQ
  rw [List.length_map]
  have h1 := List.length_filter_le (· == j) ((bkI k x.v x.m).take q)
  have h2 : ((bkI k x.v x.m).take q).length ≤ (bkI k x.v x.m).length := by rw [List.length_take]; omega
  have h3 := bkI_length k x.v x.m
  omega

theorem mnI_nat {k : Int} (hk : rtI k = true) : mnI k = ((2 ^ k.toNat : Nat) : Int) := by
  unfold mnI
  rw [if_pos hk, Int.natCast_pow]
  rfl

theorem mn_le {k : Int} (hk : rtI k = true) : 2 ^ k.toNat ≤ 8 := pow_le (by have := rtI_iff.1 hk; omega)

theorem bk_all (k : Nat) (v m : BitVec 64) : ((bkN k v m).filter fun j => decide (j < 2 ^ k)) = bkN k v m :=
  List.filter_eq_self.2 fun _ hj => decide_eq_true (mem_bkN.1 hj).1

/-- The parts of all banks, together. -/
theorem sm_all {k : Int} (hk : rtI k = true) (l : List En) : (smP k l (2 ^ k.toNat) : Int) = l.length + cpI k l := by
  have h := pt_all hk l (2 ^ k.toNat) (Nat.le_refl _)
  unfold smP
  rw [h]
  clear h
  induction l with
  | nil => rfl
  | cons x l ih =>
    have hp := List.length_pos_of_mem (bkI_pos hk x.v x.m)
    have hl : (bkI k x.v x.m).length = (bkN k.toNat x.v x.m).length := by
      unfold bkI
      rw [if_pos hk, List.length_map]
    have hc : cpI k (x :: l) = max (((bkI k x.v x.m).length : Int) - 1) 0 + cpI k l := rfl
    rw [List.map_cons, List.sum_cons, bk_all, hc, List.length_cons, ← hl]
    omega

/-- An index of no bits has one bank. -/
theorem pt_zero (l : List En) : ptI 0 0 l = l := by
  rw [ptI_filter]
  exact List.filter_eq_self.2 fun x _ => decide_eq_true (bkI_pos (k := 0) rfl x.v x.m)

end Go.Sx.M
end

section
/-
  Plain mathematics: banks by shifts. No program.
-/
namespace Go.Sx.M

/-- The first bits, shifted down, are the number that they form. -/
theorem sh_of (a : BitVec 64) {k : Nat} (hk : k ≤ 64) : (a >>> (64 - k)).toNat = ofN a k := by
  have hlt : (a >>> (64 - k)).toNat < 2 ^ k := by
    rw [BitVec.toNat_ushiftRight, Nat.shiftRight_eq_div_pow]
    have h := a.isLt
    have e : 2 ^ 64 = 2 ^ k * 2 ^ (64 - k) := by rw [← Nat.pow_add]; congr 1; omega
    rw [Nat.div_lt_iff_lt_mul (Nat.two_pow_pos _), ← e]
    exact h
  refine (ofN_eq hlt fun i hi => ?_).symm
  rw [BitVec.testBit_toNat, BitVec.getLsbD_ushiftRight, BitVec.getMsbD]
  rw [decide_eq_true (by omega), Bool.true_and]
  congr 1
  omega

theorem mnI_none {k : Int} (h : rtI k = false) : mnI k = 0 := by
  unfold mnI
  rw [h]
  rfl

theorem mn_rt {k j : Int} (h0 : 0 ≤ j) (h1 : j < mnI k) : rtI k = true := by
  cases h : rtI k with
  | true => rfl
  | false => rw [mnI_none h] at h1; omega

/-- Of a bank that there isn't there is no part. -/
theorem pt_none {k j : Int} (h : ¬ (0 ≤ j ∧ j < mnI k)) (l : List En) : ptI k j l = [] := by
  rw [ptI_filter]
  refine List.filter_eq_nil_iff.2 fun x _ hx => ?_
  have hx := of_decide_eq_true hx
  cases hr : rtI k with
  | false =>
    unfold bkI at hx
    rw [hr] at hx
    exact absurd hx List.not_mem_nil
  | true =>
    obtain ⟨n, rfl, hn, _⟩ := (mem_bkI hr).1 hx
    rw [mnI_nat hr] at h
    exact h ⟨Int.natCast_nonneg n, Int.ofNat_lt.2 hn⟩

/-- A bank's part, of one entry more. -/
theorem pt_one {k : Int} (hr : rtI k = true) {j : Nat} (hj : j < 2 ^ k.toNat) (x : En) : ptX k (j : Int) x = if okI k.toNat x.v x.m j = true then [x] else [] := by
  rw [ptX_if]
  by_cases h : okI k.toNat x.v x.m j = true
  · rw [if_pos h, if_pos (show (j : Int) ∈ bkI k x.v x.m from (mem_bkI hr).2 ⟨j, rfl, hj, h⟩)]
  · rw [if_neg h, if_neg fun hm => by
      obtain ⟨n, hn, _, ho⟩ := (mem_bkI hr).1 hm
      have : n = j := Int.ofNat.inj hn.symm
      exact h (this ▸ ho)]

end Go.Sx.M
end

