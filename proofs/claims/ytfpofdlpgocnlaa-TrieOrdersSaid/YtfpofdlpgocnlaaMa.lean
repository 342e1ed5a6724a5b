/-
  Texts in one: M01 M02 M03 M04 M09 M11.
-/
import Derived.Laws.Small

section
/-
  Plain mathematics for layer 1: the bits of two words, from the left. No program.
-/
namespace Go.Sx.M

/-- Bit k of two words, from the left. -/
def bitAt (a b : BitVec 64) (k : Nat) : Bool := if k < 64 then a.getMsbD k else b.getMsbD (k - 64)

def divs (a : BitVec 64) : Nat → BitVec 64
  | 0 => a
  | j + 1 => divs a j / BitVec.ofInt 64 2

def bitDiv (a b : BitVec 64) (k : Nat) : Bool :=
  match decide (k < 64) with
  | true => divs a (63 - k) % BitVec.ofInt 64 2 == BitVec.ofInt 64 1
  | false => divs b (127 - k) % BitVec.ofInt 64 2 == BitVec.ofInt 64 1

theorem divs_toNat (a : BitVec 64) : ∀ j, (divs a j).toNat = a.toNat / 2 ^ j
  | 0 => by simp [divs]
  | j + 1 => by
    rw [divs, BitVec.toNat_udiv, divs_toNat a j, show (BitVec.ofInt 64 2).toNat = 2 from by decide, Nat.div_div_eq_div_mul, Nat.pow_succ]

theorem divs_bit (a : BitVec 64) (j : Nat) : (divs a j % BitVec.ofInt 64 2 == BitVec.ofInt 64 1) = a.getLsbD j := by
  rw [Bool.eq_iff_iff, beq_iff_eq, ← BitVec.toNat_inj, BitVec.toNat_umod, divs_toNat, show (BitVec.ofInt 64 2).toNat = 2 from by decide, show (BitVec.ofInt 64 1).toNat = 1 from by decide,
    BitVec.getLsbD, Nat.testBit_eq_decide_div_mod_eq, decide_eq_true_eq]

theorem bitDiv_eq {a b : BitVec 64} {k : Nat} (hk : k < 128) : bitDiv a b k = bitAt a b k := by
  unfold bitDiv bitAt
  by_cases h : k < 64
  · simp only [h, decide_true, if_true, divs_bit, BitVec.getMsbD, Bool.true_and]
  · simp only [h, decide_false, if_false, divs_bit, BitVec.getMsbD]
    rw [show decide (k - 64 < 64) = true from by simp; omega, Bool.true_and]
    congr 1
    omega

/-- The first n of bits, as a number. -/
def W (f : Nat → Bool) : Nat → BitVec 64
  | 0 => 0#64
  | n + 1 => if f n then W f n * 2#64 + 1#64 else W f n * 2#64

theorem mul_two (x : BitVec 64) : x * 2#64 = x <<< 1 := by
  apply BitVec.eq_of_toNat_eq
  rw [BitVec.toNat_mul, BitVec.toNat_shiftLeft, Nat.shiftLeft_eq]
  rfl

theorem shl_one_or (x : BitVec 64) : x <<< 1 + 1#64 = x <<< 1 ||| 1#64 := by
  apply BitVec.add_eq_or_of_and_eq_zero
  apply BitVec.eq_of_getLsbD_eq
  intro i hi
  cases i <;> simp [BitVec.getLsbD_one]

theorem W_get (f : Nat → Bool) : ∀ n, n ≤ 64 → ∀ j, (W f n).getLsbD j = (decide (j < n) && f (n - 1 - j))
  | 0, _, j => by simp [W]
  | n + 1, hn, j => by
    have ih := W_get f n (by omega)
    have e : W f (n + 1) = (W f n <<< 1) ||| (if f n then 1#64 else 0#64) := by
      show (if f n then W f n * 2#64 + 1#64 else W f n * 2#64) = _
      rw [mul_two]
      cases f n
      · simp
      · exact shl_one_or _
    rw [e, BitVec.getLsbD_or, BitVec.getLsbD_shiftLeft]
    rcases Nat.eq_zero_or_pos j with h0 | h0
    · subst h0
      simp only [Nat.sub_zero, Nat.add_sub_cancel]
      cases f n <;> simp
    · rw [ih (j - 1)]
      have h1 : (if f n = true then 1#64 else 0#64).getLsbD j = false := by
        split
        · rw [BitVec.getLsbD_one]; simp; omega
        · simp
      rw [h1, Bool.or_false]
      by_cases hj : j < n + 1
      · have a1 : decide (j < 64) = true := by simp; omega
        have a2 : decide (j < 1) = false := by simp; omega
        have a3 : decide (j - 1 < n) = true := by simp; omega
        have a4 : decide (j < n + 1) = true := by simp; omega
        rw [a1, a2, a3, a4]
        simp only [Bool.not_false, Bool.true_and]
        congr 1; omega
      · have a3 : decide (j - 1 < n) = false := by simp; omega
        have a4 : decide (j < n + 1) = false := by simp; omega
        rw [a3, a4]; simp

theorem msb_eq {a b : BitVec 64} (h : ∀ i, i < 64 → a.getMsbD i = b.getMsbD i) : a = b := by
  apply BitVec.eq_of_getMsbD_eq
  intro i hi
  exact h i hi

theorem W_msb (f : Nat → Bool) {i : Nat} (hi : i < 64) : (W f 64).getMsbD i = f i := by
  rw [BitVec.getMsbD, W_get f 64 (by omega)]
  have a1 : decide (i < 64) = true := by simpa using hi
  have a2 : decide (64 - 1 - i < 64) = true := by simp; omega
  rw [a1, a2]
  simp only [Bool.true_and]
  congr 1; omega

theorem W_eq {f : Nat → Bool} {a : BitVec 64} (h : ∀ i, i < 64 → f i = a.getMsbD i) : W f 64 = a :=
  msb_eq fun i hi => by rw [W_msb f hi, h i hi]

/-- A word with the bit j from the right alone. -/
def one (j : Nat) : BitVec 64 := BitVec.ofInt 64 1 <<< j

theorem one_get (j i : Nat) : (one j).getLsbD i = (decide (i < 64) && decide (i = j)) := by
  unfold one
  rw [BitVec.getLsbD_shiftLeft, show BitVec.ofInt 64 1 = 1#64 from rfl, BitVec.getLsbD_one]
  by_cases h : i = j
  · subst h; simp
  · by_cases h2 : i < j
    · simp [h2, h]
    · rw [show decide (i - j = 0) = false from by simp; omega]; simp [h]

theorem and_one {a : BitVec 64} {j : Nat} (hj : j < 64) : (a &&& one j != BitVec.ofInt 64 0) = a.getLsbD j := by
  rw [show BitVec.ofInt 64 0 = 0#64 from rfl]
  cases h : a.getLsbD j
  · rw [bne_eq_false_iff_eq]
    apply BitVec.eq_of_getLsbD_eq
    intro i hi
    rw [BitVec.getLsbD_and, one_get, BitVec.getLsbD_zero]
    by_cases e : i = j
    · subst e; simp [h]
    · simp [e]
  · rw [bne_iff_ne]
    intro e
    have h2 : (a &&& one j).getLsbD j = (0#64).getLsbD j := by rw [e]
    rw [BitVec.getLsbD_and, one_get, h, BitVec.getLsbD_zero] at h2
    simp [hj] at h2

def bitZ (a b : BitVec 64) (k : Int) : Bool := decide (0 ≤ k ∧ k < 128) && bitAt a b k.toNat

theorem bitZ_lo {a b : BitVec 64} {k : Int} (h0 : 0 ≤ k) (h1 : k < 64) : bitZ a b k = a.getMsbD k.toNat := by
  unfold bitZ bitAt
  rw [if_pos (by omega), show decide (0 ≤ k ∧ k < 128) = true from by simp; omega, Bool.true_and]

theorem bitZ_hi {a b : BitVec 64} {k : Int} (h0 : 64 ≤ k) (h1 : k < 128) : bitZ a b k = b.getMsbD (k.toNat - 64) := by
  unfold bitZ bitAt
  rw [if_neg (by omega), show decide (0 ≤ k ∧ k < 128) = true from by simp; omega, Bool.true_and]

theorem bitZ_out {a b : BitVec 64} {k : Int} (h : k < 0 ∨ 128 ≤ k) : bitZ a b k = false := by
  unfold bitZ
  rw [show decide (0 ≤ k ∧ k < 128) = false from by simp; omega, Bool.false_and]

/-- A word with its bit k, from the left, so. -/
def put (a : BitVec 64) (k : Int) (c : Bool) : BitVec 64 :=
  if 0 ≤ k ∧ k < 64 then (match c with | true => a ||| one (63 - k.toNat) | false => a &&& ~~~one (63 - k.toNat)) else a

theorem put_in {a : BitVec 64} {k : Int} {c : Bool} (h0 : 0 ≤ k) (h1 : k < 64) : put a k c = match c with | true => a ||| one (63 - k.toNat) | false => a &&& ~~~one (63 - k.toNat) := if_pos ⟨h0, h1⟩
theorem put_out {a : BitVec 64} {k : Int} {c : Bool} (h : k < 0 ∨ 64 ≤ k) : put a k c = a := if_neg (by omega)

theorem put_get {a : BitVec 64} {k : Int} {c : Bool} {i : Nat} (hi : i < 64) : (put a k c).getMsbD i = if (i : Int) = k then c else a.getMsbD i := by
  by_cases h : 0 ≤ k ∧ k < 64
  · rw [put_in h.1 h.2]
    have e : (63 - i = 63 - k.toNat) ↔ ((i : Int) = k) := by omega
    have e64 : decide (i < 64) = true := by simpa using hi
    have e63 : decide (64 - 1 - i < 64) = true := by simp; omega
    cases c
    · simp only [BitVec.getMsbD, BitVec.getLsbD_and, BitVec.getLsbD_not, one_get, e64, e63, Bool.true_and]
      by_cases hk : (i : Int) = k
      · simp [hk, show 64 - 1 - i = 63 - k.toNat from by omega]
      · simp [hk, show ¬ (63 - i = 63 - k.toNat) from by omega]
    · simp only [BitVec.getMsbD, BitVec.getLsbD_or, one_get, e64, e63, Bool.true_and]
      by_cases hk : (i : Int) = k
      · simp [hk, show 64 - 1 - i = 63 - k.toNat from by omega]
      · simp [hk, show ¬ (63 - i = 63 - k.toNat) from by omega]
  · rw [put_out (by omega), if_neg (by omega)]

end Go.Sx.M
end

section
/-
  Plain mathematics: the sums of adjacent bits (what OnesCount64 computes) count the bits that are set. No program.
-/
namespace Go.Sx.M

/-- and, byte by byte. -/
theorem and_split (v M u m : Nat) (hu : u < 256) (hm : m < 256) : (256 * v + u) &&& (256 * M + m) = 256 * (v &&& M) + (u &&& m) := by
  apply Nat.eq_of_testBit_eq
  intro i
  have e : ∀ a b : Nat, b < 256 → (256 * a + b).testBit i = if i < 8 then b.testBit i else a.testBit (i - 8) := fun a b hb => by
    have := Nat.testBit_two_pow_mul_add (i := 8) a (b := b) (by simpa using hb) i
    simpa using this
  have hum : u &&& m < 256 := Nat.lt_of_le_of_lt Nat.and_le_left hu
  rw [Nat.testBit_and, e v u hu, e M m hm, e (v &&& M) (u &&& m) hum]
  split <;> simp [Nat.testBit_and]

def val : List Nat → Nat
  | [] => 0
  | u :: l => 256 * val l + u

def small (l : List Nat) : Prop := ∀ u ∈ l, u < 256

theorem shr1 (v u : Nat) : (256 * v + u) / 2 = 256 * (v / 2) + (u / 2 + 128 * (v % 2)) := by omega
theorem shr2 (v u : Nat) : (256 * v + u) / 4 = 256 * (v / 4) + (u / 4 + 64 * (v % 4)) := by omega
theorem shr4 (v u : Nat) : (256 * v + u) / 16 = 256 * (v / 16) + (u / 16 + 16 * (v % 16)) := by omega

def s1 (u : Nat) : Nat := (u / 2 &&& 85) + (u &&& 85)
def s2 (u : Nat) : Nat := (u / 4 &&& 51) + (u &&& 51)
def s3 (u : Nat) : Nat := u / 16 + u &&& 15

theorem a1 : ∀ u : Fin 256, ∀ c : Fin 2, (u.val / 2 + 128 * c.val) &&& 85 = u.val / 2 &&& 85 := by decide +kernel
theorem a2 : ∀ u : Fin 256, ∀ c : Fin 4, (u.val / 4 + 64 * c.val) &&& 51 = u.val / 4 &&& 51 := by decide +kernel
theorem b1 : ∀ u : Fin 256, s1 u.val < 256 := by decide +kernel
theorem b2 : ∀ u : Fin 256, s2 (s1 u.val) < 69 ∧ s2 (s1 u.val) % 16 < 5 := by decide +kernel
theorem a3 : ∀ u : Fin 69, ∀ c : Fin 5, (u.val / 16 + 16 * c.val + u.val) &&& 15 = (u.val / 16 + u.val) &&& 15 := by decide +kernel

theorem step1 : ∀ l : List Nat, small l → (val l / 2 &&& val (l.map fun _ => 85)) + (val l &&& val (l.map fun _ => 85)) = val (l.map s1)
  | [], _ => by simp [val]
  | u :: l, h => by
    have hu : u < 256 := h u (by simp)
    have ih := step1 l fun x hx => h x (by simp [hx])
    simp only [val, List.map_cons]
    rw [shr1, and_split _ _ _ _ (by omega) (by omega), and_split _ _ _ _ hu (by omega)]
    have e := a1 ⟨u, hu⟩ ⟨val l % 2, by omega⟩
    dsimp only at e
    rw [e, ← ih, s1]
    omega

theorem step2 : ∀ l : List Nat, small l → (val l / 4 &&& val (l.map fun _ => 51)) + (val l &&& val (l.map fun _ => 51)) = val (l.map s2)
  | [], _ => by simp [val]
  | u :: l, h => by
    have hu : u < 256 := h u (by simp)
    have ih := step2 l fun x hx => h x (by simp [hx])
    simp only [val, List.map_cons]
    rw [shr2, and_split _ _ _ _ (by omega) (by omega), and_split _ _ _ _ hu (by omega)]
    have e := a2 ⟨u, hu⟩ ⟨val l % 4, by omega⟩
    dsimp only at e
    rw [e, ← ih, s2]
    omega

theorem valmod : ∀ l : List Nat, (∀ u ∈ l, u < 69 ∧ u % 16 < 5) → val l % 16 < 5
  | [], _ => by simp [val]
  | u :: l, h => by
    have := h u (by simp)
    simp only [val]; omega

theorem step3 : ∀ l : List Nat, (∀ u ∈ l, u < 69 ∧ u % 16 < 5) → (val l / 16 + val l) &&& val (l.map fun _ => 15) = val (l.map s3)
  | [], _ => by simp [val]
  | u :: l, h => by
    have hu := h u (by simp)
    have hl : ∀ x ∈ l, x < 69 ∧ x % 16 < 5 := fun x hx => h x (by simp [hx])
    have ih := step3 l hl
    have hv := valmod l hl
    simp only [val, List.map_cons]
    rw [shr4, show 256 * (val l / 16) + (u / 16 + 16 * (val l % 16)) + (256 * val l + u) = 256 * (val l / 16 + val l) + (u / 16 + 16 * (val l % 16) + u) from by omega,
      and_split _ _ _ _ (by omega) (by omega), ih]
    have e := a3 ⟨u, hu.1⟩ ⟨val l % 16, hv⟩
    dsimp only at e
    rw [e, s3]

/-- How many of the first n bits are set. -/
def cnt : Nat → Nat → Nat
  | 0, _ => 0
  | n + 1, x => cnt n x + (if x.testBit n then 1 else 0)

theorem c3 : ∀ u : Fin 256, s3 (s2 (s1 u.val)) = cnt 8 u.val := by decide +kernel

theorem last (c0 c1 c2 c3 c4 c5 c6 c7 : Nat) (h0 : c0 < 9) (h1 : c1 < 9) (h2 : c2 < 9) (h3 : c3 < 9) (h4 : c4 < 9) (h5 : c5 < 9) (h6 : c6 < 9) (h7 : c7 < 9) (y y1 y2 y3 : Nat)
    (hy : y = val [c0, c1, c2, c3, c4, c5, c6, c7]) (hy1 : y1 = y + y / 256) (hy2 : y2 = y1 + y1 / 65536) (hy3 : y3 = y2 + y2 / 4294967296) :
    y3 < 18446744073709551616 ∧ y3 % 128 = c0 + c1 + c2 + c3 + c4 + c5 + c6 + c7 := by
  simp only [val] at hy
  have q1 : y / 256 = val [c1, c2, c3, c4, c5, c6, c7] := by simp only [val]; omega
  simp only [val] at q1
  have e1 : y1 = val [c0 + c1, c1 + c2, c2 + c3, c3 + c4, c4 + c5, c5 + c6, c6 + c7, c7] := by simp only [val]; omega
  clear hy1 q1 hy
  simp only [val] at e1
  have q2 : y1 / 65536 = val [c2 + c3, c3 + c4, c4 + c5, c5 + c6, c6 + c7, c7] := by simp only [val]; omega
  simp only [val] at q2
  have e2 : y2 = val [c0 + c1 + c2 + c3, c1 + c2 + c3 + c4, c2 + c3 + c4 + c5, c3 + c4 + c5 + c6, c4 + c5 + c6 + c7, c5 + c6 + c7, c6 + c7, c7] := by simp only [val]; omega
  clear hy2 q2 e1
  simp only [val] at e2
  have q3 : y2 / 4294967296 = val [c4 + c5 + c6 + c7, c5 + c6 + c7, c6 + c7, c7] := by simp only [val]; omega
  simp only [val] at q3
  have e3 : y3 = val [c0 + c1 + c2 + c3 + c4 + c5 + c6 + c7, c1 + c2 + c3 + c4 + c5 + c6 + c7, c2 + c3 + c4 + c5 + c6 + c7, c3 + c4 + c5 + c6 + c7, c4 + c5 + c6 + c7, c5 + c6 + c7, c6 + c7, c7] := by simp only [val]; omega
  clear hy3 q3 e2
  simp only [val] at e3
  constructor <;> omega

theorem cnt_split (u v : Nat) (hu : u < 256) : ∀ n, cnt (8 + n) (256 * v + u) = cnt 8 u + cnt n v := by
  have e : ∀ i, (256 * v + u).testBit i = if i < 8 then u.testBit i else v.testBit (i - 8) := fun i => by
    have := Nat.testBit_two_pow_mul_add (i := 8) v (b := u) (by simpa using hu) i
    simpa using this
  intro n
  induction n with
  | zero => simp [cnt, e]
  | succ n ih =>
    show cnt (8 + n) (256 * v + u) + (if (256 * v + u).testBit (8 + n) = true then 1 else 0) = cnt 8 u + (cnt n v + if v.testBit n = true then 1 else 0)
    have h8 : (256 * v + u).testBit (8 + n) = v.testBit n := by rw [e, if_neg (by omega)]; congr 1; omega
    rw [ih, h8]
    omega

theorem cnt8 : ∀ u : Fin 256, cnt 8 u.val < 9 := by decide +kernel

theorem s12 {u : Nat} (h : u < 256) : s2 (s1 u) < 69 ∧ s2 (s1 u) % 16 < 5 := b2 ⟨u, h⟩
theorem s11 {u : Nat} (h : u < 256) : s1 u < 256 := b1 ⟨u, h⟩
theorem s123 {u : Nat} (h : u < 256) : s3 (s2 (s1 u)) = cnt 8 u := c3 ⟨u, h⟩

theorem val_lt : ∀ {l : List Nat}, small l → val l < 256 ^ l.length
  | [], _ => by simp [val]
  | u :: l, h => by
    have hu : u < 256 := h u (by simp)
    have ih := val_lt (l := l) fun x hx => h x (by simp [hx])
    simp only [val, List.length_cons, Nat.pow_succ]
    omega

/-- What the sums of adjacent bits come to. -/
theorem popcount (x : Nat) (hx : x < 18446744073709551616) (x1 x2 y y1 y2 y3 : Nat)
    (h1 : x1 = (x / 2 &&& 6148914691236517205) + (x &&& 6148914691236517205)) (h2 : x2 = (x1 / 4 &&& 3689348814741910323) + (x1 &&& 3689348814741910323))
    (hy : y = (x2 / 16 + x2) &&& 1085102592571150095) (hy1 : y1 = y + y / 256) (hy2 : y2 = y1 + y1 / 65536) (hy3 : y3 = y2 + y2 / 4294967296) :
    x1 < 18446744073709551616 ∧ x2 / 16 + x2 < 18446744073709551616 ∧ y3 < 18446744073709551616 ∧ y3 % 128 = cnt 64 x := by
  obtain ⟨l, hl, hlen, rfl⟩ : ∃ l : List Nat, small l ∧ l.length = 8 ∧ x = val l := by
    refine ⟨[x % 256, x / 256 % 256, x / 65536 % 256, x / 16777216 % 256, x / 4294967296 % 256, x / 1099511627776 % 256, x / 281474976710656 % 256, x / 72057594037927936 % 256], ?_, rfl, ?_⟩
    · intro u hu
      simp only [List.mem_cons, List.not_mem_nil, or_false] at hu
      omega
    · simp only [val]; omega
  match l, hlen with
  | [c0, c1, c2, c3, c4, c5, c6, c7], _ =>
    have k0 : c0 < 256 := hl _ (by simp)
    have k1 : c1 < 256 := hl _ (by simp)
    have k2 : c2 < 256 := hl _ (by simp)
    have k3 : c3 < 256 := hl _ (by simp)
    have k4 : c4 < 256 := hl _ (by simp)
    have k5 : c5 < 256 := hl _ (by simp)
    have k6 : c6 < 256 := hl _ (by simp)
    have k7 : c7 < 256 := hl _ (by simp)
    have hl1 : small [s1 c0, s1 c1, s1 c2, s1 c3, s1 c4, s1 c5, s1 c6, s1 c7] := by
      intro u hu
      simp only [List.mem_cons, List.not_mem_nil, or_false] at hu
      rcases hu with rfl | rfl | rfl | rfl | rfl | rfl | rfl | rfl <;> exact s11 (by assumption)
    have hl2 : ∀ u ∈ [s2 (s1 c0), s2 (s1 c1), s2 (s1 c2), s2 (s1 c3), s2 (s1 c4), s2 (s1 c5), s2 (s1 c6), s2 (s1 c7)], u < 69 ∧ u % 16 < 5 := by
      intro u hu
      simp only [List.mem_cons, List.not_mem_nil, or_false] at hu
      rcases hu with rfl | rfl | rfl | rfl | rfl | rfl | rfl | rfl <;> exact s12 (by assumption)
    have e1 : x1 = val [s1 c0, s1 c1, s1 c2, s1 c3, s1 c4, s1 c5, s1 c6, s1 c7] := by rw [h1, show 6148914691236517205 = val ([c0, c1, c2, c3, c4, c5, c6, c7].map fun _ => 85) from by simp [val]]; exact step1 _ hl
    have e2 : x2 = val [s2 (s1 c0), s2 (s1 c1), s2 (s1 c2), s2 (s1 c3), s2 (s1 c4), s2 (s1 c5), s2 (s1 c6), s2 (s1 c7)] := by rw [h2, e1, show 3689348814741910323 = val ([s1 c0, s1 c1, s1 c2, s1 c3, s1 c4, s1 c5, s1 c6, s1 c7].map fun _ => 51) from by simp [val]]; exact step2 _ hl1
    have e3 : y = val [s3 (s2 (s1 c0)), s3 (s2 (s1 c1)), s3 (s2 (s1 c2)), s3 (s2 (s1 c3)), s3 (s2 (s1 c4)), s3 (s2 (s1 c5)), s3 (s2 (s1 c6)), s3 (s2 (s1 c7))] := by rw [hy, e2, show 1085102592571150095 = val ([s2 (s1 c0), s2 (s1 c1), s2 (s1 c2), s2 (s1 c3), s2 (s1 c4), s2 (s1 c5), s2 (s1 c6), s2 (s1 c7)].map fun _ => 15) from by simp [val]]; exact step3 _ hl2
    rw [s123 k0, s123 k1, s123 k2, s123 k3, s123 k4, s123 k5, s123 k6, s123 k7] at e3
    have hlast := last _ _ _ _ _ _ _ _ (cnt8 ⟨c0, k0⟩) (cnt8 ⟨c1, k1⟩) (cnt8 ⟨c2, k2⟩) (cnt8 ⟨c3, k3⟩) (cnt8 ⟨c4, k4⟩) (cnt8 ⟨c5, k5⟩) (cnt8 ⟨c6, k6⟩) (cnt8 ⟨c7, k7⟩) y y1 y2 y3 e3 hy1 hy2 hy3
    refine ⟨?_, ?_, hlast.1, ?_⟩
    · have h := val_lt hl1
      simp only [List.length_cons, List.length_nil] at h
      rw [e1]
      exact Nat.lt_of_lt_of_le h (by decide)
    · have : x2 < 69 * 72057594037927936 + 72057594037927936 := by
        rw [e2]
        have := (s12 k0).1; have := (s12 k1).1; have := (s12 k2).1; have := (s12 k3).1; have := (s12 k4).1; have := (s12 k5).1; have := (s12 k6).1; have := (s12 k7).1
        simp only [val]; omega
      omega
    · rw [hlast.2]
      simp only [val]
      have j0 := cnt_split c0 (val [c1, c2, c3, c4, c5, c6, c7]) k0 56
      have j1 := cnt_split c1 (val [c2, c3, c4, c5, c6, c7]) k1 48
      have j2 := cnt_split c2 (val [c3, c4, c5, c6, c7]) k2 40
      have j3 := cnt_split c3 (val [c4, c5, c6, c7]) k3 32
      have j4 := cnt_split c4 (val [c5, c6, c7]) k4 24
      have j5 := cnt_split c5 (val [c6, c7]) k5 16
      have j6 := cnt_split c6 (val [c7]) k6 8
      have j7 := cnt_split c7 (val []) k7 0
      simp only [val, Nat.reduceAdd, Nat.add_zero] at j0 j1 j2 j3 j4 j5 j6 j7 ⊢
      rw [j0, j1, j2, j3, j4, j5, j6, j7]
      show _ = cnt 8 c0 + (cnt 8 c1 + (cnt 8 c2 + (cnt 8 c3 + (cnt 8 c4 + (cnt 8 c5 + (cnt 8 c6 + (cnt 8 c7 + 0)))))))
      omega

end Go.Sx.M
end

section
/-
  Plain mathematics: how many bits of two words are set, counted from the left. No program.
-/
namespace Go.Sx.M

/-- How many of the first n are true. -/
def cf (f : Nat → Bool) : Nat → Nat
  | 0 => 0
  | n + 1 => cf f n + (if f n then 1 else 0)

theorem cf_congr {f g : Nat → Bool} : ∀ {n : Nat}, (∀ i, i < n → f i = g i) → cf f n = cf g n
  | 0, _ => rfl
  | n + 1, h => by simp only [cf]; rw [cf_congr fun i hi => h i (by omega), h n (by omega)]

theorem cf_first (f : Nat → Bool) : ∀ n, cf f (n + 1) = (if f 0 then 1 else 0) + cf (fun i => f (i + 1)) n
  | 0 => by simp [cf]
  | n + 1 => by
    have ih := cf_first f n
    rw [show cf f (n + 1 + 1) = cf f (n + 1) + (if f (n + 1) then 1 else 0) from rfl, ih]
    simp only [cf]
    omega

theorem cf_turn (f : Nat → Bool) : ∀ n, cf (fun i => f (n - 1 - i)) n = cf f n
  | 0 => rfl
  | n + 1 => by
    rw [cf_first]
    have h : cf (fun i => f (n + 1 - 1 - (i + 1))) n = cf (fun i => f (n - 1 - i)) n := cf_congr fun i hi => by congr 1; omega
    rw [h, cf_turn f n]
    simp only [cf, Nat.add_sub_cancel, Nat.sub_zero]
    omega

theorem cf_add (f : Nat → Bool) (m : Nat) : ∀ n, cf f (m + n) = cf f m + cf (fun i => f (m + i)) n
  | 0 => rfl
  | n + 1 => by
    rw [show cf f (m + (n + 1)) = cf f (m + n) + (if f (m + n) then 1 else 0) from rfl, cf_add f m n]
    simp only [cf]; omega

theorem cf_not (f : Nat → Bool) : ∀ n, cf (fun i => !f i) n + cf f n = n
  | 0 => rfl
  | n + 1 => by
    have := cf_not f n
    simp only [cf]
    have h : ∀ c : Bool, (if (!c) = true then 1 else 0) + (if c = true then 1 else 0) = 1 := by decide
    have := h (f n)
    omega

theorem cnt_cf (x : Nat) : ∀ n, cnt n x = cf (fun i => x.testBit i) n
  | 0 => rfl
  | n + 1 => by simp only [cnt, cf]; rw [cnt_cf x n]

theorem cnt_word (a : BitVec 64) : cnt 64 a.toNat = cf (fun i => a.getMsbD i) 64 := by
  rw [cnt_cf, ← cf_turn]
  refine cf_congr fun i hi => ?_
  rw [BitVec.getMsbD, show decide (i < 64) = true from by simpa using hi, Bool.true_and]
  rfl

theorem cnt_words (a b : BitVec 64) : cnt 64 a.toNat + cnt 64 b.toNat = cf (bitAt a b) 128 := by
  have h1 : cf (bitAt a b) 64 = cf (fun i => a.getMsbD i) 64 := cf_congr fun i hi => by rw [bitAt, if_pos hi]
  have h2 : cf (fun i => bitAt a b (64 + i)) 64 = cf (fun i => b.getMsbD i) 64 := cf_congr fun i hi => by
    rw [bitAt, if_neg (by omega), Nat.add_sub_cancel_left]
  rw [show 128 = 64 + 64 from rfl, cf_add, cnt_word, cnt_word, h1, h2]

theorem cnt_not (a b : BitVec 64) : cnt 64 (~~~a).toNat + cnt 64 (~~~b).toNat + (cnt 64 a.toNat + cnt 64 b.toNat) = 128 := by
  have e : ∀ a : BitVec 64, cnt 64 (~~~a).toNat + cnt 64 a.toNat = 64 := fun a => by
    rw [cnt_word, cnt_word]
    have h : cf (fun i => (~~~a).getMsbD i) 64 = cf (fun i => !a.getMsbD i) 64 := cf_congr fun i hi => by simp [hi]
    rw [h, cf_not]
  have := e a
  have := e b
  omega

end Go.Sx.M
end

section
/-
  Plain mathematics: the first bit that differs; two words as one number. No program.
-/
namespace Go.Sx.M

/-- The first place, from k on, of the next n, at which two rows differ, or the end. -/
def comG (f g : Nat → Bool) : Nat → Nat → Nat
  | 0, k => k
  | n + 1, k => if f k = g k then comG f g n (k + 1) else k

def com (f g : Nat → Bool) : Nat := comG f g 128 0

structure IsCom (f g : Nat → Bool) (n : Nat) : Prop where
  le : n ≤ 128
  same : ∀ i, i < n → f i = g i
  other : n < 128 → f n ≠ g n

theorem comG_spec (f g : Nat → Bool) : ∀ n k, k ≤ comG f g n k ∧ comG f g n k ≤ k + n ∧ (∀ i, k ≤ i → i < comG f g n k → f i = g i) ∧ (comG f g n k < k + n → f (comG f g n k) ≠ g (comG f g n k))
  | 0, k => ⟨Nat.le_refl _, Nat.le_refl _, fun i h1 h2 => absurd h2 (by simp only [comG]; omega), fun h => absurd h (by simp only [comG]; omega)⟩
  | n + 1, k => by
    simp only [comG]
    split
    · rename_i h
      obtain ⟨h1, h2, h3, h4⟩ := comG_spec f g n (k + 1)
      refine ⟨by omega, by omega, fun i h5 h6 => ?_, fun h5 => h4 (by omega)⟩
      rcases Nat.eq_or_lt_of_le h5 with rfl | h7
      · exact h
      · exact h3 i h7 h6
    · rename_i h
      exact ⟨Nat.le_refl _, by omega, fun i h5 h6 => by omega, fun _ => h⟩

theorem com_spec (f g : Nat → Bool) : IsCom f g (com f g) := by
  obtain ⟨_, h2, h3, h4⟩ := comG_spec f g 128 0
  exact ⟨by simpa [com] using h2, fun i hi => h3 i (Nat.zero_le _) hi, fun h => h4 (by simpa [com] using h)⟩

theorem IsCom.uniq {f g : Nat → Bool} {n m : Nat} (h : IsCom f g n) (h' : IsCom f g m) : n = m := by
  rcases Nat.lt_trichotomy n m with hlt | h0 | hlt
  · exact absurd (h'.same n hlt) (h.other (by have := h'.le; omega))
  · exact h0
  · exact absurd (h.same m hlt) (h'.other (by have := h.le; omega))

theorem IsCom.symm {f g : Nat → Bool} {n : Nat} (h : IsCom f g n) : IsCom g f n := ⟨h.le, fun i hi => (h.same i hi).symm, fun hn e => h.other hn e.symm⟩

theorem com_comm (f g : Nat → Bool) : com f g = com g f := (com_spec f g).uniq (com_spec g f).symm

/-- Two words as one number. -/
def V (a b : BitVec 64) : Nat := a.toNat * 2 ^ 64 + b.toNat

theorem V_lt (a b : BitVec 64) : V a b < 2 ^ 128 := by
  have := a.isLt
  have := b.isLt
  unfold V; omega

theorem V_inj {a b c d : BitVec 64} : V a b = V c d ↔ a = c ∧ b = d := by
  have h1 := b.isLt
  have h2 := d.isLt
  refine ⟨fun h => ?_, fun h => by rw [h.1, h.2]⟩
  unfold V at h
  exact ⟨BitVec.eq_of_toNat_eq (by omega), BitVec.eq_of_toNat_eq (by omega)⟩

theorem V_bit (a b : BitVec 64) {k : Nat} (hk : k < 128) : (V a b).testBit (127 - k) = bitAt a b k := by
  unfold V bitAt
  rw [Nat.mul_comm, Nat.testBit_two_pow_mul_add _ b.isLt]
  split
  · rename_i h
    rw [if_neg (by omega), BitVec.getMsbD, show decide (k - 64 < 64) = true from by simp; omega, Bool.true_and, BitVec.getLsbD, show 64 - 1 - (k - 64) = 127 - k from by omega] <;> try omega
  · rename_i h
    rw [if_pos (by omega), BitVec.getMsbD, show decide (k < 64) = true from by simp; omega, Bool.true_and, BitVec.getLsbD]
    congr 1; omega

theorem bitAt_eq {a b c d : BitVec 64} (h : ∀ k, k < 128 → bitAt a b k = bitAt c d k) : a = c ∧ b = d := by
  refine ⟨msb_eq fun i hi => ?_, msb_eq fun i hi => ?_⟩
  · have := h i (by omega)
    unfold bitAt at this
    rwa [if_pos hi, if_pos hi] at this
  · have := h (64 + i) (by omega)
    unfold bitAt at this
    rwa [if_neg (by omega), if_neg (by omega), Nat.add_sub_cancel_left] at this

theorem lt_of_bit {m n i : Nat} (hm : m.testBit i = false) (hn : n.testBit i = true) (h : ∀ j, i < j → m.testBit j = n.testBit j) : m < n := by
  have e : m / 2 ^ (i + 1) = n / 2 ^ (i + 1) := Nat.eq_of_testBit_eq fun j => by
    rw [Nat.testBit_div_two_pow, Nat.testBit_div_two_pow]; exact h _ (by omega)
  rw [Nat.testBit_eq_decide_div_mod_eq, decide_eq_false_iff_not] at hm
  rw [Nat.testBit_eq_decide_div_mod_eq, decide_eq_true_eq] at hn
  rw [Nat.pow_succ, ← Nat.div_div_eq_div_mul, ← Nat.div_div_eq_div_mul] at e
  have h2 : m / 2 ^ i < n / 2 ^ i := by omega
  refine Nat.lt_of_not_le fun hle => ?_
  have := Nat.div_le_div_right (c := 2 ^ i) hle
  omega

theorem V_less {a b c d : BitVec 64} {n : Nat} (hn : n < 128) (hs : ∀ i, i < n → bitAt a b i = bitAt c d i) (h0 : bitAt a b n = false) (h1 : bitAt c d n = true) : V a b < V c d := by
  refine lt_of_bit (i := 127 - n) (by rw [V_bit a b hn, h0]) (by rw [V_bit c d hn, h1]) fun j hj => ?_
  by_cases h : j < 128
  · have e : j = 127 - (127 - j) := by omega
    rw [e, V_bit a b (by omega), V_bit c d (by omega)]
    exact hs _ (by omega)
  · rw [Nat.testBit_lt_two_pow (Nat.lt_of_lt_of_le (V_lt a b) (Nat.pow_le_pow_right (by omega) (by omega))), Nat.testBit_lt_two_pow (Nat.lt_of_lt_of_le (V_lt c d) (Nat.pow_le_pow_right (by omega) (by omega)))]

/-- Which of two numbers is the greater one. -/
def cmpV (m n : Nat) : Int := if m = n then 0 else if m < n then -1 else 1

theorem com_eq {a b c d : BitVec 64} : com (bitAt a b) (bitAt c d) = 128 ↔ a = c ∧ b = d := by
  have hs := com_spec (bitAt a b) (bitAt c d)
  refine ⟨fun h => bitAt_eq fun k hk => hs.same k (by omega), fun ⟨h1, h2⟩ => ?_⟩
  subst h1; subst h2
  rcases Nat.lt_or_ge (com (bitAt a b) (bitAt a b)) 128 with h | h
  · exact absurd rfl (hs.other h)
  · have := hs.le; omega

theorem com_cmp (a b c d : BitVec 64) : cmpV (V a b) (V c d) = if com (bitAt a b) (bitAt c d) = 128 then 0 else if bitAt c d (com (bitAt a b) (bitAt c d)) = true then -1 else 1 := by
  have hs := com_spec (bitAt a b) (bitAt c d)
  by_cases h : com (bitAt a b) (bitAt c d) = 128
  · rw [if_pos h]
    obtain ⟨rfl, rfl⟩ := com_eq.1 h
    unfold cmpV
    rw [if_pos rfl]
  · rw [if_neg h]
    have hlt : com (bitAt a b) (bitAt c d) < 128 := by have := hs.le; omega
    have ho := hs.other hlt
    cases hb : bitAt c d (com (bitAt a b) (bitAt c d)) with
    | true =>
      have ha : bitAt a b (com (bitAt a b) (bitAt c d)) = false := by
        rw [hb] at ho; cases hx : bitAt a b (com (bitAt a b) (bitAt c d)) with
        | true => rw [hx] at ho; exact absurd rfl ho
        | false => rfl
      have := V_less hlt hs.same ha hb
      unfold cmpV
      rw [if_neg (by omega), if_pos this, if_pos rfl]
    | false =>
      have ha : bitAt a b (com (bitAt a b) (bitAt c d)) = true := by
        rw [hb] at ho; cases hx : bitAt a b (com (bitAt a b) (bitAt c d)) with
        | true => rfl
        | false => rw [hx] at ho; exact absurd rfl ho
      have := V_less hlt (fun i hi => (hs.same i hi).symm) hb ha
      unfold cmpV
      rw [if_neg (by omega), if_neg (by omega), if_neg (by simp)]

end Go.Sx.M
end

section
/-
  Plain mathematics for words: bit by bit of two words of 64 bits. No program.
-/
namespace Go.Sx.M

theorem bitAt_and (a b c d : BitVec 64) (k : Nat) : bitAt (a &&& c) (b &&& d) k = (bitAt a b k && bitAt c d k) := by
  unfold bitAt; split <;> rw [BitVec.getMsbD_and]

theorem bitAt_or (a b c d : BitVec 64) (k : Nat) : bitAt (a ||| c) (b ||| d) k = (bitAt a b k || bitAt c d k) := by
  unfold bitAt; split <;> rw [BitVec.getMsbD_or]

theorem bitAt_xor (a b c d : BitVec 64) (k : Nat) : bitAt (a ^^^ c) (b ^^^ d) k = (bitAt a b k ^^ bitAt c d k) := by
  unfold bitAt; split <;> rw [BitVec.getMsbD_xor]

theorem bitAt_not (a b : BitVec 64) {k : Nat} (hk : k < 128) : bitAt (~~~a) (~~~b) k = !bitAt a b k := by
  unfold bitAt; split <;> rw [BitVec.getMsbD_not]
  · simp [*]
  · simp; omega

theorem bitAt_zero (k : Nat) : bitAt 0#64 0#64 k = false := by
  unfold bitAt; split <;> simp

theorem pair_beq {a b c d : BitVec 64} : (a == c && b == d) = true ↔ ∀ k, k < 128 → bitAt a b k = bitAt c d k := by
  rw [Bool.and_eq_true, beq_iff_eq, beq_iff_eq]
  exact ⟨fun ⟨h1, h2⟩ k _ => by rw [h1, h2], fun h => bitAt_eq h⟩

/-- Does the word v w, with the mask m n, match a b? -/
def wmB (v w m n a b : BitVec 64) : Bool := a &&& m == v &&& m && b &&& n == w &&& n

theorem wmB_iff {v w m n a b : BitVec 64} : wmB v w m n a b = true ↔ ∀ k, k < 128 → bitAt m n k = true → bitAt v w k = bitAt a b k := by
  unfold wmB
  rw [pair_beq]
  refine ⟨fun h k hk hm => ?_, fun h k hk => ?_⟩
  · have := h k hk
    rw [bitAt_and, bitAt_and, hm] at this
    simpa using this.symm
  · rw [bitAt_and, bitAt_and]
    cases hm : bitAt m n k with
    | true => rw [h k hk hm]
    | false => simp

/-- Is there one that both match? -/
def wtB (v w m n c d p q : BitVec 64) : Bool := (v ^^^ c) &&& (m &&& p) == 0#64 && (w ^^^ d) &&& (n &&& q) == 0#64

theorem wtB_iff {v w m n c d p q : BitVec 64} : wtB v w m n c d p q = true ↔ ∀ k, k < 128 → bitAt m n k = true → bitAt p q k = true → bitAt v w k = bitAt c d k := by
  unfold wtB
  rw [pair_beq]
  refine ⟨fun h k hk h1 h2 => ?_, fun h k hk => ?_⟩
  · have := h k hk
    rw [bitAt_and, bitAt_and, bitAt_xor, bitAt_zero, h1, h2] at this
    revert this
    cases bitAt v w k <;> cases bitAt c d k <;> simp
  · rw [bitAt_and, bitAt_and, bitAt_xor, bitAt_zero]
    cases h1 : bitAt m n k with
    | false => simp
    | true => cases h2 : bitAt p q k with
      | false => simp
      | true => rw [h k hk h1 h2]; simp

/-- Does the one match all that the other one matches? -/
def wcB (v w m n c d p q : BitVec 64) : Bool := m &&& p == m && n &&& q == n && wtB v w m n c d p q

theorem wcB_iff {v w m n c d p q : BitVec 64} : wcB v w m n c d p q = true ↔ ∀ k, k < 128 → bitAt m n k = true → bitAt p q k = true ∧ bitAt v w k = bitAt c d k := by
  unfold wcB
  rw [Bool.and_eq_true, pair_beq, wtB_iff]
  refine ⟨fun ⟨h, h'⟩ k hk hm => ?_, fun h => ⟨fun k hk => ?_, fun k hk h1 h2 => (h k hk h1).2⟩⟩
  · have := h k hk
    rw [bitAt_and, hm, Bool.true_and] at this
    exact ⟨this, h' k hk hm this⟩
  · rw [bitAt_and]
    cases hm : bitAt m n k with
    | false => simp
    | true => rw [(h k hk hm).1]; simp

theorem wcB_eq {v w m n c d p q : BitVec 64} : (wtB v w m n c d p q && ((v &&& m ||| c &&& p) == c &&& p && (w &&& n ||| d &&& q) == d &&& q && ((m ||| p) == p && (n ||| q) == q))) = wcB v w m n c d p q := by
  rw [Bool.eq_iff_iff, Bool.and_eq_true, Bool.and_eq_true, pair_beq, pair_beq, wtB_iff, wcB_iff]
  refine ⟨fun ⟨h1, _, h3⟩ k hk hm => ?_, fun h => ⟨fun k hk h1 h2 => (h k hk h1).2, fun k hk => ?_, fun k hk => ?_⟩⟩
  · have := h3 k hk
    rw [bitAt_or, hm, Bool.true_or] at this
    exact ⟨this.symm, h1 k hk hm this.symm⟩
  · rw [bitAt_or, bitAt_and, bitAt_and]
    cases hm : bitAt m n k with
    | false => simp
    | true => rw [(h k hk hm).1, (h k hk hm).2]; simp
  · rw [bitAt_or]
    cases hm : bitAt m n k with
    | false => simp
    | true => rw [(h k hk hm).1]; simp

theorem wtB_comm {v w m n c d p q : BitVec 64} : wtB c d p q v w m n = wtB v w m n c d p q := by
  rw [Bool.eq_iff_iff, wtB_iff, wtB_iff]
  exact ⟨fun h k hk h1 h2 => (h k hk h2 h1).symm, fun h k hk h1 h2 => (h k hk h2 h1).symm⟩

/-- What both match. -/
theorem both_match {v w m n c d p q a b : BitVec 64} (h : wtB v w m n c d p q = true) :
    wmB (v &&& m ||| c &&& p) (w &&& n ||| d &&& q) (m ||| p) (n ||| q) a b = (wmB v w m n a b && wmB c d p q a b) := by
  rw [wtB_iff] at h
  rw [Bool.eq_iff_iff, Bool.and_eq_true, wmB_iff, wmB_iff, wmB_iff]
  refine ⟨fun g => ⟨fun k hk hm => ?_, fun k hk hp => ?_⟩, fun ⟨g1, g2⟩ k hk => ?_⟩
  · have := g k hk
    have h' := h k hk hm
    simp only [bitAt_or, bitAt_and, hm, Bool.true_or, Bool.and_true, forall_const] at this
    rw [← this]
    cases hp : bitAt p q k with
    | false => simp
    | true => rw [h' hp]; simp
  · have := g k hk
    have h' := fun hm => h k hk hm hp
    simp only [bitAt_or, bitAt_and, hp, Bool.or_true, Bool.and_true, forall_const] at this
    rw [← this]
    cases hm : bitAt m n k with
    | false => simp
    | true => rw [h' hm]; simp
  · have h' := h k hk
    have g1' := g1 k hk
    have g2' := g2 k hk
    rw [bitAt_or, bitAt_or, bitAt_and, bitAt_and]
    revert h' g1' g2'
    cases bitAt m n k <;> cases bitAt p q k <;> simp_all

theorem both_right {v w m n c d p q : BitVec 64} : ((v &&& m ||| c &&& p) &&& (m ||| p) == (v &&& m ||| c &&& p) && (w &&& n ||| d &&& q) &&& (n ||| q) == (w &&& n ||| d &&& q)) = true := by
  rw [pair_beq]
  intro k hk
  rw [bitAt_and, bitAt_or, bitAt_or, bitAt_and, bitAt_and]
  cases bitAt m n k <;> cases bitAt p q k <;> simp

theorem both_covers {v w m n c d p q : BitVec 64} (h : wtB v w m n c d p q = true) : wcB v w m n (v &&& m ||| c &&& p) (w &&& n ||| d &&& q) (m ||| p) (n ||| q) = true ∧ wcB c d p q (v &&& m ||| c &&& p) (w &&& n ||| d &&& q) (m ||| p) (n ||| q) = true := by
  rw [wtB_iff] at h
  rw [wcB_iff, wcB_iff]
  refine ⟨fun k hk hm => ?_, fun k hk hp => ?_⟩
  · have h' := h k hk hm
    rw [bitAt_or, bitAt_or, bitAt_and, bitAt_and, hm]
    revert h'
    cases bitAt p q k <;> simp
    exact fun e => by rw [e]; simp
  · have h' := fun hm => h k hk hm hp
    rw [bitAt_or, bitAt_or, bitAt_and, bitAt_and, hp]
    revert h'
    cases bitAt m n k <;> simp
    exact fun e => by rw [e]; simp

theorem apart_match {v w m n c d p q a b : BitVec 64} (h : wtB v w m n c d p q = false) (h1 : wmB v w m n a b = true) : wmB c d p q a b = false := by
  cases h2 : wmB c d p q a b with
  | false => rfl
  | true =>
    rw [wmB_iff] at h1 h2
    have : wtB v w m n c d p q = true := wtB_iff.2 fun k hk hm hp => (h1 k hk hm).trans (h2 k hk hp).symm
    rw [this] at h; cases h

theorem wc_trans {v w m n c d p q e f g h : BitVec 64} (h1 : wcB v w m n c d p q = true) (h2 : wcB c d p q e f g h = true) : wcB v w m n e f g h = true := by
  rw [wcB_iff] at h1 h2 ⊢
  exact fun k hk hm => ⟨(h2 k hk (h1 k hk hm).1).1, (h1 k hk hm).2.trans (h2 k hk (h1 k hk hm).1).2⟩

theorem wc_match {v w m n c d p q a b : BitVec 64} (h1 : wcB v w m n c d p q = true) (h2 : wmB c d p q a b = true) : wmB v w m n a b = true := by
  rw [wcB_iff] at h1
  rw [wmB_iff] at h2 ⊢
  exact fun k hk hm => (h1 k hk hm).2.trans (h2 k hk (h1 k hk hm).1)

theorem wc_refl {v w m n : BitVec 64} : wcB v w m n v w m n = true := by
  rw [wcB_iff]; exact fun _ _ hm => ⟨hm, rfl⟩

/-- A word, or nothing. -/
def selW (b : Bool) (x : BitVec 64) : BitVec 64 := if b then x else 0#64

/-- Do two words of one mask differ in one bit? -/
def mgB (v w m n c d p q : BitVec 64) : Bool := (m == p && n == q) && cf (bitAt ((v ^^^ c) &&& m) ((w ^^^ d) &&& n)) 128 == 1

end Go.Sx.M
end

section
/-
  Plain mathematics: entries, rows of entries: which one is the first, which the best one. No program.
-/
namespace Go.Sx.M

/-- An entry: a word's value and mask, its length, its action. -/
structure En where
  v : BitVec 64
  w : BitVec 64
  m : BitVec 64
  n : BitVec 64
  len : Int
  act : Int
  deriving DecidableEq, Inhabited

/-- Does its word match? -/
def mtE (x : En) (a b : BitVec 64) : Bool := wmB x.v x.w x.m x.n a b

/-- Is there an address that both match? -/
def meE (x y : En) : Bool := wtB x.v x.w x.m x.n y.v y.w y.m y.n

/-- Must the one stand above the other one? -/
def abE (x y : En) : Bool := decide (x.len > y.len) && meE x y

theorem meE_comm (x y : En) : meE x y = meE y x := wtB_comm

/-- Element k of a row. -/
def at' {T : Type} [Inhabited T] (l : List T) (k : Nat) : T := l.getD k default

theorem at_get {T : Type} [Inhabited T] {l : List T} {k : Nat} (h : k < l.length) : l[k]? = some (at' l k) := by
  unfold at'; rw [List.getD_eq_getElem?_getD, List.getElem?_eq_getElem h]; rfl

theorem at_mem {T : Type} [Inhabited T] {l : List T} {k : Nat} (h : k < l.length) : at' l k ∈ l := List.mem_of_getElem? (at_get h)

theorem mem_at {T : Type} [Inhabited T] {l : List T} {x : T} (h : x ∈ l) : ∃ k, k < l.length ∧ at' l k = x := by
  obtain ⟨k, hk⟩ := List.mem_iff_getElem?.1 h
  have hl := (List.getElem?_eq_some_iff.1 hk).1
  exact ⟨k, hl, by rw [at_get hl] at hk; exact Option.some_inj.1 hk⟩

/-- The first one from k on, n of them looked at; -1: there is none. -/
def fsG (p : En → Bool) (l : List En) : Nat → Nat → Int
  | 0, _ => -1
  | n + 1, k => if p (at' l k) then (k : Int) else fsG p l n (k + 1)

/-- The first one that matches; -1: there is none. -/
def fsI (l : List En) (a b : BitVec 64) : Int := fsG (fun x => mtE x a b) l l.length 0

theorem fsG_spec (p : En → Bool) (l : List En) : ∀ n k, (fsG p l n k = -1 ∧ ∀ j, k ≤ j → j < k + n → p (at' l j) = false) ∨
    ∃ i : Nat, fsG p l n k = i ∧ k ≤ i ∧ i < k + n ∧ p (at' l i) = true ∧ ∀ j, k ≤ j → j < i → p (at' l j) = false
  | 0, k => .inl ⟨rfl, fun j h1 h2 => by omega⟩
  | n + 1, k => by
    unfold fsG
    cases hp : p (at' l k) with
    | true => right; exact ⟨k, by simp, Nat.le_refl _, by omega, hp, fun j h1 h2 => by omega⟩
    | false =>
      simp only [Bool.false_eq_true, if_false]
      rcases fsG_spec p l n (k + 1) with ⟨h1, h2⟩ | ⟨i, h1, h2, h3, h4, h5⟩
      · left
        refine ⟨h1, fun j h3 h4 => ?_⟩
        rcases Nat.lt_or_eq_of_le h3 with h | rfl
        · exact h2 j h (by omega)
        · exact hp
      · right
        refine ⟨i, h1, by omega, by omega, h4, fun j h6 h7 => ?_⟩
        rcases Nat.lt_or_eq_of_le h6 with h | rfl
        · exact h5 j h h7
        · exact hp

/-- It is the first one that matches, or there is none. -/
def FirstAt (l : List En) (a b : BitVec 64) (r : Int) : Prop :=
  (r = -1 ∧ ∀ j, j < l.length → mtE (at' l j) a b = false) ∨ ∃ i : Nat, r = i ∧ i < l.length ∧ mtE (at' l i) a b = true ∧ ∀ j, j < i → mtE (at' l j) a b = false

theorem fsI_spec (l : List En) (a b : BitVec 64) : FirstAt l a b (fsI l a b) := by
  rcases fsG_spec (fun x => mtE x a b) l l.length 0 with ⟨h1, h2⟩ | ⟨i, h1, h2, h3, h4, h5⟩
  · exact .inl ⟨h1, fun j hj => h2 j (by omega) (by omega)⟩
  · exact .inr ⟨i, h1, by omega, h4, fun j hj => h5 j (by omega) hj⟩

theorem FirstAt.uniq {l : List En} {a b : BitVec 64} {r s : Int} (h : FirstAt l a b r) (h' : FirstAt l a b s) : r = s := by
  rcases h with ⟨rfl, h⟩ | ⟨i, rfl, hi, h1, h2⟩ <;> rcases h' with ⟨rfl, g⟩ | ⟨k, rfl, hk, g1, g2⟩
  · rfl
  · rw [h k hk] at g1; cases g1
  · rw [g i hi] at h1; cases h1
  · rcases Nat.lt_trichotomy i k with h | h | h
    · rw [g2 i h] at h1; cases h1
    · rw [h]
    · rw [h2 k h] at g1; cases g1

/-- The best one of the last n; -1: none matches. -/
def bsG (l : List En) (a b : BitVec 64) : Nat → Int
  | 0 => -1
  | n + 1 => if mtE (at' l (l.length - 1 - n)) a b && (decide (bsG l a b n < 0) || decide ((at' l (l.length - 1 - n)).len ≥ (at' l (bsG l a b n).toNat).len)) then ((l.length - 1 - n : Nat) : Int) else bsG l a b n

/-- The best one; -1: none matches. -/
def bsI (l : List En) (a b : BitVec 64) : Int := bsG l a b l.length

/-- Of those from k on it is the best one, or none matches. -/
def BestFrom (l : List En) (a b : BitVec 64) (k : Nat) (r : Int) : Prop :=
  (r = -1 ∧ ∀ j, k ≤ j → j < l.length → mtE (at' l j) a b = false) ∨
  ∃ i : Nat, r = i ∧ k ≤ i ∧ i < l.length ∧ mtE (at' l i) a b = true ∧ ∀ j, k ≤ j → j < l.length → mtE (at' l j) a b = true → (at' l j).len ≤ (at' l i).len ∧ (j < i → (at' l j).len < (at' l i).len)

theorem bsG_spec (l : List En) (a b : BitVec 64) : ∀ n, n ≤ l.length → BestFrom l a b (l.length - n) (bsG l a b n)
  | 0, _ => .inl ⟨rfl, fun j h1 h2 => by omega⟩
  | n + 1, hn => by
    have ih := bsG_spec l a b n (by omega)
    generalize hr : bsG l a b n = r at ih
    have e1 : l.length - (n + 1) = l.length - 1 - n := by omega
    have e2 : l.length - n = (l.length - 1 - n) + 1 := by omega
    rw [e2] at ih
    rw [e1]
    unfold bsG
    rw [hr]
    generalize hk : l.length - 1 - n = k at *
    have hkl : k < l.length := by omega
    cases hm : mtE (at' l k) a b with
    | false =>
      simp only [Bool.false_and, Bool.false_eq_true, if_false]
      rcases ih with ⟨h1, h2⟩ | ⟨i, h1, h2, h3, h4, h5⟩
      · left
        refine ⟨h1, fun j h3 h4 => ?_⟩
        rcases Nat.lt_or_eq_of_le h3 with h | rfl
        · exact h2 j h h4
        · exact hm
      · right
        refine ⟨i, h1, by omega, h3, h4, fun j h6 h7 h8 => ?_⟩
        rcases Nat.lt_or_eq_of_le h6 with h | rfl
        · exact h5 j h h7 h8
        · rw [hm] at h8; cases h8
    | true =>
      rcases ih with ⟨rfl, h2⟩ | ⟨i, rfl, h2, h3, h4, h5⟩
      · right
        refine ⟨k, by simp, Nat.le_refl _, hkl, hm, fun j h6 h7 h8 => ?_⟩
        rcases Nat.lt_or_eq_of_le h6 with h | rfl
        · rw [h2 j h h7] at h8; cases h8
        · exact ⟨Int.le_refl _, fun h => by omega⟩
      · have e3 : ((i : Int)).toNat = i := by omega
        rw [e3, show decide ((i : Int) < 0) = false from by simp]
        simp only [Bool.true_and, Bool.false_or]
        by_cases hl : (at' l k).len ≥ (at' l i).len
        · rw [if_pos (by simpa using hl)]
          right
          refine ⟨k, rfl, Nat.le_refl _, hkl, hm, fun j h6 h7 h8 => ?_⟩
          rcases Nat.lt_or_eq_of_le h6 with h | rfl
          · have := (h5 j h h7 h8).1
            exact ⟨by omega, fun h' => by omega⟩
          · exact ⟨Int.le_refl _, fun h => by omega⟩
        · rw [if_neg (by simpa using hl)]
          right
          refine ⟨i, rfl, by omega, h3, h4, fun j h6 h7 h8 => ?_⟩
          rcases Nat.lt_or_eq_of_le h6 with h | rfl
          · exact h5 j h h7 h8
          · exact ⟨by omega, fun _ => by omega⟩

theorem bsI_spec (l : List En) (a b : BitVec 64) : BestFrom l a b 0 (bsI l a b) := by
  have := bsG_spec l a b l.length (Nat.le_refl _)
  rwa [Nat.sub_self] at this

theorem BestFrom.uniq {l : List En} {a b : BitVec 64} {r s : Int} (h : BestFrom l a b 0 r) (h' : BestFrom l a b 0 s) : r = s := by
  rcases h with ⟨rfl, h⟩ | ⟨i, rfl, _, hi, h1, h2⟩ <;> rcases h' with ⟨rfl, g⟩ | ⟨k, rfl, _, hk, g1, g2⟩
  · rfl
  · rw [h k (by omega) hk] at g1; cases g1
  · rw [g i (by omega) hi] at h1; cases h1
  · have a1 := h2 k (by omega) hk g1
    have a2 := g2 i (by omega) hi h1
    rcases Nat.lt_trichotomy i k with h | h | h
    · have := a2.2 h; omega
    · rw [h]
    · have := a1.2 h; omega

/-- What is to be done: the best one's action; 0: none matches. -/
def tlI (l : List En) (a b : BitVec 64) : Int := if bsI l a b < 0 then 0 else (at' l (bsI l a b).toNat).act

/-- No one stands behind one that it must stand above. -/
def orE (l : List En) : Bool := decide (∀ i, i < l.length → ∀ k, k < l.length → i < k → abE (at' l k) (at' l i) = false)

theorem orE_iff {l : List En} : orE l = true ↔ ∀ i, i < l.length → ∀ k, k < l.length → i < k → abE (at' l k) (at' l i) = false := by
  unfold orE; rw [decide_eq_true_eq]

/-- Of an ordered row the first one that matches is the best one. -/
theorem first_best {l : List En} (h : orE l = true) (a b : BitVec 64) : fsI l a b = bsI l a b := by
  rw [orE_iff] at h
  refine BestFrom.uniq ?_ (bsI_spec l a b)
  rcases fsI_spec l a b with ⟨h1, h2⟩ | ⟨i, h1, hi, h2, h3⟩
  · exact .inl ⟨h1, fun j _ hj => h2 j hj⟩
  · refine .inr ⟨i, h1, by omega, hi, h2, fun j _ hj hm => ?_⟩
    rcases Nat.lt_trichotomy j i with hlt | rfl | hgt
    · rw [h3 j hlt] at hm; cases hm
    · exact ⟨Int.le_refl _, fun h => by omega⟩
    · have ho := h i hi j hj hgt
      have hme : meE (at' l j) (at' l i) = true := by
        unfold meE
        rw [wtB_iff]
        intro k hk k1 k2
        exact (wmB_iff.1 hm k hk k1).trans (wmB_iff.1 h2 k hk k2).symm
      unfold abE at ho
      rw [hme, Bool.and_true, decide_eq_false_iff_not] at ho
      exact ⟨by omega, fun h => by omega⟩

end Go.Sx.M
end

