/-
  Texts in one: M01 M02 M03 M04 M09 M10 M11 M12 M13 M14 M16 M19.
-/
import Derived.Laws.Small

section
/-
  Plain mathematics for layer 1: the bits of two words, from the left. No program.
-/
namespace Go.Sx.M

/-- Bit k of two words, from the left. -/
def bitAt (a b : BitVec 64) (k : Nat) : Bool := if k < 64 then a.getMsbD k else b.getMsbD (k - 64)

def divs (a : BitVec 64) : Nat → BitVec 64
  | 0 => a
  | j + 1 => divs a j / BitVec.ofInt 64 2

def bitDiv (a b : BitVec 64) (k : Nat) : Bool :=
  match decide (k < 64) with
  | true => divs a (63 - k) % BitVec.ofInt 64 2 == BitVec.ofInt 64 1
  | false => divs b (127 - k) % BitVec.ofInt 64 2 == BitVec.ofInt 64 1

theorem divs_toNat (a : BitVec 64) : ∀ j, (divs a j).toNat = a.toNat / 2 ^ j
  | 0 => by simp [divs]
  | j + 1 => by
    rw [divs, BitVec.toNat_udiv, divs_toNat a j, show (BitVec.ofInt 64 2).toNat = 2 from by decide, Nat.div_div_eq_div_mul, Nat.pow_succ]

theorem divs_bit (a : BitVec 64) (j : Nat) : (divs a j % BitVec.ofInt 64 2 == BitVec.ofInt 64 1) = a.getLsbD j := by
  rw [Bool.eq_iff_iff, beq_iff_eq, ← BitVec.toNat_inj, BitVec.toNat_umod, divs_toNat, show (BitVec.ofInt 64 2).toNat = 2 from by decide, show (BitVec.ofInt 64 1).toNat = 1 from by decide,
    BitVec.getLsbD, Nat.testBit_eq_decide_div_mod_eq, decide_eq_true_eq]

theorem bitDiv_eq {a b : BitVec 64} {k : Nat} (hk : k < 128) : bitDiv a b k = bitAt a b k := by
  unfold bitDiv bitAt
  by_cases h : k < 64
  · simp only [h, decide_true, if_true, divs_bit, BitVec.getMsbD, Bool.true_and]
  · simp only [h, decide_false, if_false, divs_bit, BitVec.getMsbD]
    rw [show decide (k - 64 < 64) = true from by simp; omega, Bool.true_and]
    congr 1
    omega

/-- The first n of bits, as a number. -/
def W (f : Nat → Bool) : Nat → BitVec 64
  | 0 => 0#64
  | n + 1 => if f n then W f n * 2#64 + 1#64 else W f n * 2#64

theorem mul_two (x : BitVec 64) : x * 2#64 = x <<< 1 := by
  apply BitVec.eq_of_toNat_eq
  rw [BitVec.toNat_mul, BitVec.toNat_shiftLeft, Nat.shiftLeft_eq]
  rfl

theorem shl_one_or (x : BitVec 64) : x <<< 1 + 1#64 = x <<< 1 ||| 1#64 := by
  apply BitVec.add_eq_or_of_and_eq_zero
  apply BitVec.eq_of_getLsbD_eq
  intro i hi
  cases i <;> simp [BitVec.getLsbD_one]

theorem W_get (f : Nat → Bool) : ∀ n, n ≤ 64 → ∀ j, (W f n).getLsbD j = (decide (j < n) && f (n - 1 - j))
  | 0, _, j => by simp [W]
  | n + 1, hn, j => by
    have ih := W_get f n (by omega)
    have e : W f (n + 1) = (W f n <<< 1) ||| (if f n then 1#64 else 0#64) := by
      show (if f n then W f n * 2#64 + 1#64 else W f n * 2#64) = _
      rw [mul_two]
      cases f n
      · simp
      · exact shl_one_or _
    rw [e, BitVec.getLsbD_or, BitVec.getLsbD_shiftLeft]
    rcases Nat.eq_zero_or_pos j with h0 | h0
    · subst h0
      simp only [Nat.sub_zero, Nat.add_sub_cancel]
      cases f n <;> simp
    · rw [ih (j - 1)]
      have h1 : (if f n = true then 1#64 else 0#64).getLsbD j = false := by
        split
        · rw [BitVec.getLsbD_one]; simp; omega
        · simp
      rw [h1, Bool.or_false]
      by_cases hj : j < n + 1
      · have a1 : decide (j < 64) = true := by simp; omega
        have a2 : decide (j < 1) = false := by simp; omega
        have a3 : decide (j - 1 < n) = true := by simp; omega
        have a4 : decide (j < n + 1) = true := by simp; omega
        rw [a1, a2, a3, a4]
        simp only [Bool.not_false, Bool.true_and]
        congr 1; omega
      · have a3 : decide (j - 1 < n) = false := by simp; omega
        have a4 : decide (j < n + 1) = false := by simp; omega
        rw [a3, a4]; simp

theorem msb_eq {a b : BitVec 64} (h : ∀ i, i < 64 → a.getMsbD i = b.getMsbD i) : a = b := by
  apply BitVec.eq_of_getMsbD_eq
  intro i hi
  exact h i hi

theorem W_msb (f : Nat → Bool) {i : Nat} (hi : i < 64) : (W f 64).getMsbD i = f i := by
  rw [BitVec.getMsbD, W_get f 64 (by omega)]
  have a1 : decide (i < 64) = true := by simpa using hi
  have a2 : decide (64 - 1 - i < 64) = true := by simp; omega
  rw [a1, a2]
  simp only [Bool.true_and]
  congr 1; omega

/-- A word with the bit j from the right alone. -/
def one (j : Nat) : BitVec 64 := BitVec.ofInt 64 1 <<< j

/-- A word with its bit k, from the left, so. -/
def put (a : BitVec 64) (k : Int) (c : Bool) : BitVec 64 :=
  if 0 ≤ k ∧ k < 64 then (match c with | true => a ||| one (63 - k.toNat) | false => a &&& ~~~one (63 - k.toNat)) else a

end Go.Sx.M
end

section
/-
  Plain mathematics: the sums of adjacent bits (what OnesCount64 computes) count the bits that are set. No program.
-/
namespace Go.Sx.M

/-- and, byte by byte. -/
theorem and_split (v M u m : Nat) (hu : u < 256) (hm : m < 256) : (256 * v + u) &&& (256 * M + m) = 256 * (v &&& M) + (u &&& m) := by
  apply Nat.eq_of_testBit_eq
  intro i
  have e : ∀ a b : Nat, b < 256 → (256 * a + b).testBit i = if i < 8 then b.testBit i else a.testBit (i - 8) := fun a b hb => by
    have := Nat.testBit_two_pow_mul_add (i := 8) a (b := b) (by simpa using hb) i
    simpa using this
  have hum : u &&& m < 256 := Nat.lt_of_le_of_lt Nat.and_le_left hu
  rw [Nat.testBit_and, e v u hu, e M m hm, e (v &&& M) (u &&& m) hum]
  split <;> simp [Nat.testBit_and]

def val : List Nat → Nat
  | [] => 0
  | u :: l => 256 * val l + u

def small (l : List Nat) : Prop := ∀ u ∈ l, u < 256

theorem shr1 (v u : Nat) : (256 * v + u) / 2 = 256 * (v / 2) + (u / 2 + 128 * (v % 2)) := by omega
theorem shr2 (v u : Nat) : (256 * v + u) / 4 = 256 * (v / 4) + (u / 4 + 64 * (v % 4)) := by omega
theorem shr4 (v u : Nat) : (256 * v + u) / 16 = 256 * (v / 16) + (u / 16 + 16 * (v % 16)) := by omega

def s1 (u : Nat) : Nat := (u / 2 &&& 85) + (u &&& 85)
def s2 (u : Nat) : Nat := (u / 4 &&& 51) + (u &&& 51)
def s3 (u : Nat) : Nat := u / 16 + u &&& 15

theorem a1 : ∀ u : Fin 256, ∀ c : Fin 2, (u.val / 2 + 128 * c.val) &&& 85 = u.val / 2 &&& 85 := by decide +kernel
theorem a2 : ∀ u : Fin 256, ∀ c : Fin 4, (u.val / 4 + 64 * c.val) &&& 51 = u.val / 4 &&& 51 := by decide +kernel
theorem b1 : ∀ u : Fin 256, s1 u.val < 256 := by decide +kernel
theorem b2 : ∀ u : Fin 256, s2 (s1 u.val) < 69 ∧ s2 (s1 u.val) % 16 < 5 := by decide +kernel
theorem a3 : ∀ u : Fin 69, ∀ c : Fin 5, (u.val / 16 + 16 * c.val + u.val) &&& 15 = (u.val / 16 + u.val) &&& 15 := by decide +kernel

theorem step1 : ∀ l : List Nat, small l → (val l / 2 &&& val (l.map fun _ => 85)) + (val l &&& val (l.map fun _ => 85)) = val (l.map s1)
  | [], _ => by simp [val]
  | u :: l, h => by
    have hu : u < 256 := h u (by simp)
    have ih := step1 l fun x hx => h x (by simp [hx])
    simp only [val, List.map_cons]
    rw [shr1, and_split _ _ _ _ (by omega) (by omega), and_split _ _ _ _ hu (by omega)]
    have e := a1 ⟨u, hu⟩ ⟨val l % 2, by omega⟩
    dsimp only at e
    rw [e, ← ih, s1]
    omega

theorem step2 : ∀ l : List Nat, small l → (val l / 4 &&& val (l.map fun _ => 51)) + (val l &&& val (l.map fun _ => 51)) = val (l.map s2)
  | [], _ => by simp [val]
  | u :: l, h => by
    have hu : u < 256 := h u (by simp)
    have ih := step2 l fun x hx => h x (by simp [hx])
    simp only [val, List.map_cons]
    rw [shr2, and_split _ _ _ _ (by omega) (by omega), and_split _ _ _ _ hu (by omega)]
    have e := a2 ⟨u, hu⟩ ⟨val l % 4, by omega⟩
    dsimp only at e
    rw [e, ← ih, s2]
    omega

theorem valmod : ∀ l : List Nat, (∀ u ∈ l, u < 69 ∧ u % 16 < 5) → val l % 16 < 5
  | [], _ => by simp [val]
  | u :: l, h => by
    have := h u (by simp)
    simp only [val]; omega

theorem step3 : ∀ l : List Nat, (∀ u ∈ l, u < 69 ∧ u % 16 < 5) → (val l / 16 + val l) &&& val (l.map fun _ => 15) = val (l.map s3)
  | [], _ => by simp [val]
  | u :: l, h => by
    have hu := h u (by simp)
    have hl : ∀ x ∈ l, x < 69 ∧ x % 16 < 5 := fun x hx => h x (by simp [hx])
    have ih := step3 l hl
    have hv := valmod l hl
    simp only [val, List.map_cons]
    rw [shr4, show 256 * (val l / 16) + (u / 16 + 16 * (val l % 16)) + (256 * val l + u) = 256 * (val l / 16 + val l) + (u / 16 + 16 * (val l % 16) + u) from by omega,
      and_split _ _ _ _ (by omega) (by omega), ih]
    have e := a3 ⟨u, hu.1⟩ ⟨val l % 16, hv⟩
    dsimp only at e
    rw [e, s3]

/-- How many of the first n bits are set. -/
def cnt : Nat → Nat → Nat
  | 0, _ => 0
  | n + 1, x => cnt n x + (if x.testBit n then 1 else 0)

theorem c3 : ∀ u : Fin 256, s3 (s2 (s1 u.val)) = cnt 8 u.val := by decide +kernel

theorem last (c0 c1 c2 c3 c4 c5 c6 c7 : Nat) (h0 : c0 < 9) (h1 : c1 < 9) (h2 : c2 < 9) (h3 : c3 < 9) (h4 : c4 < 9) (h5 : c5 < 9) (h6 : c6 < 9) (h7 : c7 < 9) (y y1 y2 y3 : Nat)
    (hy : y = val [c0, c1, c2, c3, c4, c5, c6, c7]) (hy1 : y1 = y + y / 256) (hy2 : y2 = y1 + y1 / 65536) (hy3 : y3 = y2 + y2 / 4294967296) :
    y3 < 18446744073709551616 ∧ y3 % 128 = c0 + c1 + c2 + c3 + c4 + c5 + c6 + c7 := by
  simp only [val] at hy
  have q1 : y / 256 = val [c1, c2, c3, c4, c5, c6, c7] := by simp only [val]; omega
  simp only [val] at q1
  have e1 : y1 = val [c0 + c1, c1 + c2, c2 + c3, c3 + c4, c4 + c5, c5 + c6, c6 + c7, c7] := by simp only [val]; omega
  clear hy1 q1 hy
  simp only [val] at e1
  have q2 : y1 / 65536 = val [c2 + c3, c3 + c4, c4 + c5, c5 + c6, c6 + c7, c7] := by simp only [val]; omega
  simp only [val] at q2
  have e2 : y2 = val [c0 + c1 + c2 + c3, c1 + c2 + c3 + c4, c2 + c3 + c4 + c5, c3 + c4 + c5 + c6, c4 + c5 + c6 + c7, c5 + c6 + c7, c6 + c7, c7] := by simp only [val]; omega
  clear hy2 q2 e1
  simp only [val] at e2
  have q3 : y2 / 4294967296 = val [c4 + c5 + c6 + c7, c5 + c6 + c7, c6 + c7, c7] := by simp only [val]; omega
  simp only [val] at q3
  have e3 : y3 = val [c0 + c1 + c2 + c3 + c4 + c5 + c6 + c7, c1 + c2 + c3 + c4 + c5 + c6 + c7, c2 + c3 + c4 + c5 + c6 + c7, c3 + c4 + c5 + c6 + c7, c4 + c5 + c6 + c7, c5 + c6 + c7, c6 + c7, c7] := by simp only [val]; omega
  clear hy3 q3 e2
  simp only [val] at e3
  constructor <;> omega

theorem cnt_split (u v : Nat) (hu : u < 256) : ∀ n, cnt (8 + n) (256 * v + u) = cnt 8 u + cnt n v := by
  have e : ∀ i, (256 * v + u).testBit i = if i < 8 then u.testBit i else v.testBit (i - 8) := fun i => by
    have := Nat.testBit_two_pow_mul_add (i := 8) v (b := u) (by simpa using hu) i
    simpa using this
  intro n
  induction n with
  | zero => simp [cnt, e]
  | succ n ih =>
    show cnt (8 + n) (256 * v + u) + (if (256 * v + u).testBit (8 + n) = true then 1 else 0) = cnt 8 u + (cnt n v + if v.testBit n = true then 1 else 0)
    have h8 : (256 * v + u).testBit (8 + n) = v.testBit n := by rw [e, if_neg (by omega)]; congr 1; omega
    rw [ih, h8]
    omega

theorem cnt8 : ∀ u : Fin 256, cnt 8 u.val < 9 := by decide +kernel

theorem s12 {u : Nat} (h : u < 256) : s2 (s1 u) < 69 ∧ s2 (s1 u) % 16 < 5 := b2 ⟨u, h⟩
theorem s11 {u : Nat} (h : u < 256) : s1 u < 256 := b1 ⟨u, h⟩
theorem s123 {u : Nat} (h : u < 256) : s3 (s2 (s1 u)) = cnt 8 u := c3 ⟨u, h⟩

theorem val_lt : ∀ {l : List Nat}, small l → val l < 256 ^ l.length
  | [], _ => by simp [val]
  | u :: l, h => by
    have hu : u < 256 := h u (by simp)
    have ih := val_lt (l := l) fun x hx => h x (by simp [hx])
    simp only [val, List.length_cons, Nat.pow_succ]
    omega

/-- What the sums of adjacent bits come to. -/
theorem popcount (x : Nat) (hx : x < 18446744073709551616) (x1 x2 y y1 y2 y3 : Nat)
    (h1 : x1 = (x / 2 &&& 6148914691236517205) + (x &&& 6148914691236517205)) (h2 : x2 = (x1 / 4 &&& 3689348814741910323) + (x1 &&& 3689348814741910323))
    (hy : y = (x2 / 16 + x2) &&& 1085102592571150095) (hy1 : y1 = y + y / 256) (hy2 : y2 = y1 + y1 / 65536) (hy3 : y3 = y2 + y2 / 4294967296) :
    x1 < 18446744073709551616 ∧ x2 / 16 + x2 < 18446744073709551616 ∧ y3 < 18446744073709551616 ∧ y3 % 128 = cnt 64 x := by
  obtain ⟨l, hl, hlen, rfl⟩ : ∃ l : List Nat, small l ∧ l.length = 8 ∧ x = val l := by
    refine ⟨[x % 256, x / 256 % 256, x / 65536 % 256, x / 16777216 % 256, x / 4294967296 % 256, x / 1099511627776 % 256, x / 281474976710656 % 256, x / 72057594037927936 % 256], ?_, rfl, ?_⟩
    · intro u hu
      simp only [List.mem_cons, List.not_mem_nil, or_false] at hu
      omega
    · simp only [val]; omega
  match l, hlen with
  | [c0, c1, c2, c3, c4, c5, c6, c7], _ =>
    have k0 : c0 < 256 := hl _ (by simp)
    have k1 : c1 < 256 := hl _ (by simp)
    have k2 : c2 < 256 := hl _ (by simp)
    have k3 : c3 < 256 := hl _ (by simp)
    have k4 : c4 < 256 := hl _ (by simp)
    have k5 : c5 < 256 := hl _ (by simp)
    have k6 : c6 < 256 := hl _ (by simp)
    have k7 : c7 < 256 := hl _ (by simp)
    have hl1 : small [s1 c0, s1 c1, s1 c2, s1 c3, s1 c4, s1 c5, s1 c6, s1 c7] := by
      intro u hu
      simp only [List.mem_cons, List.not_mem_nil, or_false] at hu
      rcases hu with rfl | rfl | rfl | rfl | rfl | rfl | rfl | rfl <;> exact s11 (by assumption)
    have hl2 : ∀ u ∈ [s2 (s1 c0), s2 (s1 c1), s2 (s1 c2), s2 (s1 c3), s2 (s1 c4), s2 (s1 c5), s2 (s1 c6), s2 (s1 c7)], u < 69 ∧ u % 16 < 5 := by
      intro u hu
      simp only [List.mem_cons, List.not_mem_nil, or_false] at hu
      rcases hu with rfl | rfl | rfl | rfl | rfl | rfl | rfl | rfl <;> exact s12 (by assumption)
    have e1 : x1 = val [s1 c0, s1 c1, s1 c2, s1 c3, s1 c4, s1 c5, s1 c6, s1 c7] := by rw [h1, show 6148914691236517205 = val ([c0, c1, c2, c3, c4, c5, c6, c7].map fun _ => 85) from by simp [val]]; exact step1 _ hl
    have e2 : x2 = val [s2 (s1 c0), s2 (s1 c1), s2 (s1 c2), s2 (s1 c3), s2 (s1 c4), s2 (s1 c5), s2 (s1 c6), s2 (s1 c7)] := by rw [h2, e1, show 3689348814741910323 = val ([s1 c0, s1 c1, s1 c2, s1 c3, s1 c4, s1 c5, s1 c6, s1 c7].map fun _ => 51) from by simp [val]]; exact step2 _ hl1
    have e3 : y = val [s3 (s2 (s1 c0)), s3 (s2 (s1 c1)), s3 (s2 (s1 c2)), s3 (s2 (s1 c3)), s3 (s2 (s1 c4)), s3 (s2 (s1 c5)), s3 (s2 (s1 c6)), s3 (s2 (s1 c7))] := by rw [hy, e2, show 1085102592571150095 = val ([s2 (s1 c0), s2 (s1 c1), s2 (s1 c2), s2 (s1 c3), s2 (s1 c4), s2 (s1 c5), s2 (s1 c6), s2 (s1 c7)].map fun _ => 15) from by simp [val]]; exact step3 _ hl2
    rw [s123 k0, s123 k1, s123 k2, s123 k3, s123 k4, s123 k5, s123 k6, s123 k7] at e3
    have hlast := last _ _ _ _ _ _ _ _ (cnt8 ⟨c0, k0⟩) (cnt8 ⟨c1, k1⟩) (cnt8 ⟨c2, k2⟩) (cnt8 ⟨c3, k3⟩) (cnt8 ⟨c4, k4⟩) (cnt8 ⟨c5, k5⟩) (cnt8 ⟨c6, k6⟩) (cnt8 ⟨c7, k7⟩) y y1 y2 y3 e3 hy1 hy2 hy3
    refine ⟨?_, ?_, hlast.1, ?_⟩
    · have h := val_lt hl1
      simp only [List.length_cons, List.length_nil] at h
      rw [e1]
      exact Nat.lt_of_lt_of_le h (by decide)
    · have : x2 < 69 * 72057594037927936 + 72057594037927936 := by
        rw [e2]
        have := (s12 k0).1; have := (s12 k1).1; have := (s12 k2).1; have := (s12 k3).1; have := (s12 k4).1; have := (s12 k5).1; have := (s12 k6).1; have := (s12 k7).1
        simp only [val]; omega
      omega
    · rw [hlast.2]
      simp only [val]
      have j0 := cnt_split c0 (val [c1, c2, c3, c4, c5, c6, c7]) k0 56
      have j1 := cnt_split c1 (val [c2, c3, c4, c5, c6, c7]) k1 48
      have j2 := cnt_split c2 (val [c3, c4, c5, c6, c7]) k2 40
      have j3 := cnt_split c3 (val [c4, c5, c6, c7]) k3 32
      have j4 := cnt_split c4 (val [c5, c6, c7]) k4 24
      have j5 := cnt_split c5 (val [c6, c7]) k5 16
      have j6 := cnt_split c6 (val [c7]) k6 8
      have j7 := cnt_split c7 (val []) k7 0
      simp only [val, Nat.reduceAdd, Nat.add_zero] at j0 j1 j2 j3 j4 j5 j6 j7 ⊢
      rw [j0, j1, j2, j3, j4, j5, j6, j7]
      show _ = cnt 8 c0 + (cnt 8 c1 + (cnt 8 c2 + (cnt 8 c3 + (cnt 8 c4 + (cnt 8 c5 + (cnt 8 c6 + (cnt 8 c7 + 0)))))))
      omega

end Go.Sx.M
end

section
/-
  Plain mathematics: how many bits of two words are set, counted from the left. No program.
-/
namespace Go.Sx.M

/-- How many of the first n are true. -/
def cf (f : Nat → Bool) : Nat → Nat
  | 0 => 0
  | n + 1 => cf f n + (if f n then 1 else 0)

theorem cf_congr {f g : Nat → Bool} : ∀ {n : Nat}, (∀ i, i < n → f i = g i) → cf f n = cf g n
  | 0, _ => rfl
  | n + 1, h => by simp only [cf]; rw [cf_congr fun i hi => h i (by omega), h n (by omega)]

theorem cf_first (f : Nat → Bool) : ∀ n, cf f (n + 1) = (if f 0 then 1 else 0) + cf (fun i => f (i + 1)) n
  | 0 => by simp [cf]
  | n + 1 => by
    have ih := cf_first f n
    rw [show cf f (n + 1 + 1) = cf f (n + 1) + (if f (n + 1) then 1 else 0) from rfl, ih]
    simp only [cf]
    omega

theorem cf_turn (f : Nat → Bool) : ∀ n, cf (fun i => f (n - 1 - i)) n = cf f n
  | 0 => rfl
  | n + 1 => by
    rw [cf_first]
    have h : cf (fun i => f (n + 1 - 1 - (i + 1))) n = cf (fun i => f (n - 1 - i)) n := cf_congr fun i hi => by congr 1; omega
    rw [h, cf_turn f n]
    simp only [cf, Nat.add_sub_cancel, Nat.sub_zero]
    omega

theorem cf_add (f : Nat → Bool) (m : Nat) : ∀ n, cf f (m + n) = cf f m + cf (fun i => f (m + i)) n
  | 0 => rfl
  | n + 1 => by
    rw [show cf f (m + (n + 1)) = cf f (m + n) + (if f (m + n) then 1 else 0) from rfl, cf_add f m n]
    simp only [cf]; omega

theorem cnt_cf (x : Nat) : ∀ n, cnt n x = cf (fun i => x.testBit i) n
  | 0 => rfl
  | n + 1 => by simp only [cnt, cf]; rw [cnt_cf x n]

theorem cnt_word (a : BitVec 64) : cnt 64 a.toNat = cf (fun i => a.getMsbD i) 64 := by
  rw [cnt_cf, ← cf_turn]
  refine cf_congr fun i hi => ?_
  rw [BitVec.getMsbD, show decide (i < 64) = true from by simpa using hi, Bool.true_and]
  rfl

theorem cnt_words (a b : BitVec 64) : cnt 64 a.toNat + cnt 64 b.toNat = cf (bitAt a b) 128 := by
  have h1 : cf (bitAt a b) 64 = cf (fun i => a.getMsbD i) 64 := cf_congr fun i hi => by rw [bitAt, if_pos hi]
  have h2 : cf (fun i => bitAt a b (64 + i)) 64 = cf (fun i => b.getMsbD i) 64 := cf_congr fun i hi => by
    rw [bitAt, if_neg (by omega), Nat.add_sub_cancel_left]
  rw [show 128 = 64 + 64 from rfl, cf_add, cnt_word, cnt_word, h1, h2]

end Go.Sx.M
end

section
/-
  Plain mathematics: the first bit that differs; two words as one number. No program.
-/
namespace Go.Sx.M

/-- The first place, from k on, of the next n, at which two rows differ, or the end. -/
def comG (f g : Nat → Bool) : Nat → Nat → Nat
  | 0, k => k
  | n + 1, k => if f k = g k then comG f g n (k + 1) else k

def com (f g : Nat → Bool) : Nat := comG f g 128 0

structure IsCom (f g : Nat → Bool) (n : Nat) : Prop where
  le : n ≤ 128
  same : ∀ i, i < n → f i = g i
  other : n < 128 → f n ≠ g n

theorem comG_spec (f g : Nat → Bool) : ∀ n k, k ≤ comG f g n k ∧ comG f g n k ≤ k + n ∧ (∀ i, k ≤ i → i < comG f g n k → f i = g i) ∧ (comG f g n k < k + n → f (comG f g n k) ≠ g (comG f g n k))
  | 0, k => ⟨Nat.le_refl _, Nat.le_refl _, fun i h1 h2 => absurd h2 (by simp only [comG]; omega), fun h => absurd h (by simp only [comG]; omega)⟩
  | n + 1, k => by
    simp only [comG]
    split
    · rename_i h
      obtain ⟨h1, h2, h3, h4⟩ := comG_spec f g n (k + 1)
      refine ⟨by omega, by omega, fun i h5 h6 => ?_, fun h5 => h4 (by omega)⟩
      rcases Nat.eq_or_lt_of_le h5 with rfl | h7
      · exact h
      · exact h3 i h7 h6
    · rename_i h
      exact ⟨Nat.le_refl _, by omega, fun i h5 h6 => by omega, fun _ => h⟩

theorem com_spec (f g : Nat → Bool) : IsCom f g (com f g) := by
  obtain ⟨_, h2, h3, h4⟩ := comG_spec f g 128 0
  exact ⟨by simpa [com] using h2, fun i hi => h3 i (Nat.zero_le _) hi, fun h => h4 (by simpa [com] using h)⟩

theorem IsCom.uniq {f g : Nat → Bool} {n m : Nat} (h : IsCom f g n) (h' : IsCom f g m) : n = m := by
  rcases Nat.lt_trichotomy n m with hlt | h0 | hlt
  · exact absurd (h'.same n hlt) (h.other (by have := h'.le; omega))
  · exact h0
  · exact absurd (h.same m hlt) (h'.other (by have := h.le; omega))

theorem IsCom.symm {f g : Nat → Bool} {n : Nat} (h : IsCom f g n) : IsCom g f n := ⟨h.le, fun i hi => (h.same i hi).symm, fun hn e => h.other hn e.symm⟩

/-- Two words as one number. -/
def V (a b : BitVec 64) : Nat := a.toNat * 2 ^ 64 + b.toNat

theorem V_lt (a b : BitVec 64) : V a b < 2 ^ 128 := by
  have := a.isLt
  have := b.isLt
  unfold V; omega

theorem V_inj {a b c d : BitVec 64} : V a b = V c d ↔ a = c ∧ b = d := by
  have h1 := b.isLt
  have h2 := d.isLt
  refine ⟨fun h => ?_, fun h => by rw [h.1, h.2]⟩
  unfold V at h
  exact ⟨BitVec.eq_of_toNat_eq (by omega), BitVec.eq_of_toNat_eq (by omega)⟩

theorem V_bit (a b : BitVec 64) {k : Nat} (hk : k < 128) : (V a b).testBit (127 - k) = bitAt a b k := by
  unfold V bitAt
  rw [Nat.mul_comm, Nat.testBit_two_pow_mul_add _ b.isLt]
  split
  · rename_i h
    rw [if_neg (by omega), BitVec.getMsbD, show decide (k - 64 < 64) = true from by simp; omega, Bool.true_and, BitVec.getLsbD, show 64 - 1 - (k - 64) = 127 - k from by omega] <;> try omega
  · rename_i h
    rw [if_pos (by omega), BitVec.getMsbD, show decide (k < 64) = true from by simp; omega, Bool.true_and, BitVec.getLsbD]
    congr 1; omega

theorem bitAt_eq {a b c d : BitVec 64} (h : ∀ k, k < 128 → bitAt a b k = bitAt c d k) : a = c ∧ b = d := by
  refine ⟨msb_eq fun i hi => ?_, msb_eq fun i hi => ?_⟩
  · have := h i (by omega)
    unfold bitAt at this
    rwa [if_pos hi, if_pos hi] at this
  · have := h (64 + i) (by omega)
    unfold bitAt at this
    rwa [if_neg (by omega), if_neg (by omega), Nat.add_sub_cancel_left] at this

theorem lt_of_bit {m n i : Nat} (hm : m.testBit i = false) (hn : n.testBit i = true) (h : ∀ j, i < j → m.testBit j = n.testBit j) : m < n := by
  have e : m / 2 ^ (i + 1) = n / 2 ^ (i + 1) := Nat.eq_of_testBit_eq fun j => by
    rw [Nat.testBit_div_two_pow, Nat.testBit_div_two_pow]; exact h _ (by omega)
  rw [Nat.testBit_eq_decide_div_mod_eq, decide_eq_false_iff_not] at hm
  rw [Nat.testBit_eq_decide_div_mod_eq, decide_eq_true_eq] at hn
  rw [Nat.pow_succ, ← Nat.div_div_eq_div_mul, ← Nat.div_div_eq_div_mul] at e
  have h2 : m / 2 ^ i < n / 2 ^ i := by omega
  refine Nat.lt_of_not_le fun hle => ?_
  have := Nat.div_le_div_right (c := 2 ^ i) hle
  omega

theorem V_less {a b c d : BitVec 64} {n : Nat} (hn : n < 128) (hs : ∀ i, i < n → bitAt a b i = bitAt c d i) (h0 : bitAt a b n = false) (h1 : bitAt c d n = true) : V a b < V c d := by
  refine lt_of_bit (i := 127 - n) (by rw [V_bit a b hn, h0]) (by rw [V_bit c d hn, h1]) fun j hj => ?_
  by_cases h : j < 128
  · have e : j = 127 - (127 - j) := by omega
    rw [e, V_bit a b (by omega), V_bit c d (by omega)]
    exact hs _ (by omega)
  · rw [Nat.testBit_lt_two_pow (Nat.lt_of_lt_of_le (V_lt a b) (Nat.pow_le_pow_right (by omega) (by omega))), Nat.testBit_lt_two_pow (Nat.lt_of_lt_of_le (V_lt c d) (Nat.pow_le_pow_right (by omega) (by omega)))]

/-- Which of two numbers is the greater one. -/
def cmpV (m n : Nat) : Int := if m = n then 0 else if m < n then -1 else 1

theorem com_eq {a b c d : BitVec 64} : com (bitAt a b) (bitAt c d) = 128 ↔ a = c ∧ b = d := by
  have hs := com_spec (bitAt a b) (bitAt c d)
  refine ⟨fun h => bitAt_eq fun k hk => hs.same k (by omega), fun ⟨h1, h2⟩ => ?_⟩
  subst h1; subst h2
  rcases Nat.lt_or_ge (com (bitAt a b) (bitAt a b)) 128 with h | h
  · exact absurd rfl (hs.other h)
  · have := hs.le; omega

theorem com_cmp (a b c d : BitVec 64) : cmpV (V a b) (V c d) = if com (bitAt a b) (bitAt c d) = 128 then 0 else if bitAt c d (com (bitAt a b) (bitAt c d)) = true then -1 else 1 := by
  have hs := com_spec (bitAt a b) (bitAt c d)
  by_cases h : com (bitAt a b) (bitAt c d) = 128
  · rw [if_pos h]
    obtain ⟨rfl, rfl⟩ := com_eq.1 h
    unfold cmpV
    rw [if_pos rfl]
  · rw [if_neg h]
    have hlt : com (bitAt a b) (bitAt c d) < 128 := by have := hs.le; omega
    have ho := hs.other hlt
    cases hb : bitAt c d (com (bitAt a b) (bitAt c d)) with
    | true =>
      have ha : bitAt a b (com (bitAt a b) (bitAt c d)) = false := by
        rw [hb] at ho; cases hx : bitAt a b (com (bitAt a b) (bitAt c d)) with
        | true => rw [hx] at ho; exact absurd rfl ho
        | false => rfl
      have := V_less hlt hs.same ha hb
      unfold cmpV
      rw [if_neg (by omega), if_pos this, if_pos rfl]
    | false =>
      have ha : bitAt a b (com (bitAt a b) (bitAt c d)) = true := by
        rw [hb] at ho; cases hx : bitAt a b (com (bitAt a b) (bitAt c d)) with
        | true => rfl
        | false => rw [hx] at ho; exact absurd rfl ho
      have := V_less hlt (fun i hi => (hs.same i hi).symm) hb ha
      unfold cmpV
      rw [if_neg (by omega), if_neg (by omega), if_neg (by simp)]

end Go.Sx.M
end

section
/-
  Plain mathematics for words: bit by bit of two words of 64 bits. No program.
-/
namespace Go.Sx.M

theorem bitAt_and (a b c d : BitVec 64) (k : Nat) : bitAt (a &&& c) (b &&& d) k = (bitAt a b k && bitAt c d k) := by
  unfold bitAt; split <;> rw [BitVec.getMsbD_and]

theorem bitAt_xor (a b c d : BitVec 64) (k : Nat) : bitAt (a ^^^ c) (b ^^^ d) k = (bitAt a b k ^^ bitAt c d k) := by
  unfold bitAt; split <;> rw [BitVec.getMsbD_xor]

theorem bitAt_zero (k : Nat) : bitAt 0#64 0#64 k = false := by
  unfold bitAt; split <;> simp

theorem pair_beq {a b c d : BitVec 64} : (a == c && b == d) = true ↔ ∀ k, k < 128 → bitAt a b k = bitAt c d k := by
  rw [Bool.and_eq_true, beq_iff_eq, beq_iff_eq]
  exact ⟨fun ⟨h1, h2⟩ k _ => by rw [h1, h2], fun h => bitAt_eq h⟩

/-- Does the word v w, with the mask m n, match a b? -/
def wmB (v w m n a b : BitVec 64) : Bool := a &&& m == v &&& m && b &&& n == w &&& n

theorem wmB_iff {v w m n a b : BitVec 64} : wmB v w m n a b = true ↔ ∀ k, k < 128 → bitAt m n k = true → bitAt v w k = bitAt a b k := by
  unfold wmB
  rw [pair_beq]
  refine ⟨fun h k hk hm => ?_, fun h k hk => ?_⟩
  · have := h k hk
    rw [bitAt_and, bitAt_and, hm] at this
    simpa using this.symm
  · rw [bitAt_and, bitAt_and]
    cases hm : bitAt m n k with
    | true => rw [h k hk hm]
    | false => simp

/-- Is there one that both match? -/
def wtB (v w m n c d p q : BitVec 64) : Bool := (v ^^^ c) &&& (m &&& p) == 0#64 && (w ^^^ d) &&& (n &&& q) == 0#64

theorem wtB_iff {v w m n c d p q : BitVec 64} : wtB v w m n c d p q = true ↔ ∀ k, k < 128 → bitAt m n k = true → bitAt p q k = true → bitAt v w k = bitAt c d k := by
  unfold wtB
  rw [pair_beq]
  refine ⟨fun h k hk h1 h2 => ?_, fun h k hk => ?_⟩
  · have := h k hk
    rw [bitAt_and, bitAt_and, bitAt_xor, bitAt_zero, h1, h2] at this
    revert this
    cases bitAt v w k <;> cases bitAt c d k <;> simp
  · rw [bitAt_and, bitAt_and, bitAt_xor, bitAt_zero]
    cases h1 : bitAt m n k with
    | false => simp
    | true => cases h2 : bitAt p q k with
      | false => simp
      | true => rw [h k hk h1 h2]; simp

theorem wtB_comm {v w m n c d p q : BitVec 64} : wtB c d p q v w m n = wtB v w m n c d p q := by
  rw [Bool.eq_iff_iff, wtB_iff, wtB_iff]
  exact ⟨fun h k hk h1 h2 => (h k hk h2 h1).symm, fun h k hk h1 h2 => (h k hk h2 h1).symm⟩

/-- A word, or nothing. -/
def selW (b : Bool) (x : BitVec 64) : BitVec 64 := if b then x else 0#64

/-- Do two words of one mask differ in one bit? -/
def mgB (v w m n c d p q : BitVec 64) : Bool := (m == p && n == q) && cf (bitAt ((v ^^^ c) &&& m) ((w ^^^ d) &&& n)) 128 == 1

end Go.Sx.M
end

section
/-
  Plain mathematics: an address that a word matches, with the bits of a number where it is free. No program.
-/
namespace Go.Sx.M

/-- How many bits behind bit i are free. -/
def fr (m n : BitVec 64) (i : Nat) : Nat := cf (fun j => !bitAt m n (127 - j)) (127 - i)

theorem cf_mono (f : Nat → Bool) : ∀ {a b : Nat}, a ≤ b → cf f a ≤ cf f b
  | a, b, h => by
    obtain ⟨d, rfl⟩ := Nat.exists_eq_add_of_le h
    rw [cf_add]; omega

end Go.Sx.M
end

section
/-
  Plain mathematics: entries, rows of entries: which one is the first, which the best one. No program.
-/
namespace Go.Sx.M

/-- An entry: a word's value and mask, its length, its action. -/
structure En where
  v : BitVec 64
  w : BitVec 64
  m : BitVec 64
  n : BitVec 64
  len : Int
  act : Int
  deriving DecidableEq, Inhabited

/-- Does its word match? -/
def mtE (x : En) (a b : BitVec 64) : Bool := wmB x.v x.w x.m x.n a b

/-- Is there an address that both match? -/
def meE (x y : En) : Bool := wtB x.v x.w x.m x.n y.v y.w y.m y.n

/-- Must the one stand above the other one? -/
def abE (x y : En) : Bool := decide (x.len > y.len) && meE x y

theorem meE_comm (x y : En) : meE x y = meE y x := wtB_comm

/-- Element k of a row. -/
def at' {T : Type} [Inhabited T] (l : List T) (k : Nat) : T := l.getD k default

theorem at_get {T : Type} [Inhabited T] {l : List T} {k : Nat} (h : k < l.length) : l[k]? = some (at' l k) := by
  unfold at'; rw [List.getD_eq_getElem?_getD, List.getElem?_eq_getElem h]; rfl

theorem at_mem {T : Type} [Inhabited T] {l : List T} {k : Nat} (h : k < l.length) : at' l k ∈ l := List.mem_of_getElem? (at_get h)

theorem mem_at {T : Type} [Inhabited T] {l : List T} {x : T} (h : x ∈ l) : ∃ k, k < l.length ∧ at' l k = x := by
  obtain ⟨k, hk⟩ := List.mem_iff_getElem?.1 h
  have hl := (List.getElem?_eq_some_iff.1 hk).1
  exact ⟨k, hl, by rw [at_get hl] at hk; exact Option.some_inj.1 hk⟩

/-- The first one from k on, n of them looked at; -1: there is none. -/
def fsG (p : En → Bool) (l : List En) : Nat → Nat → Int
  | 0, _ => -1
  | n + 1, k => if p (at' l k) then (k : Int) else fsG p l n (k + 1)

/-- The first one that matches; -1: there is none. -/
def fsI (l : List En) (a b : BitVec 64) : Int := fsG (fun x => mtE x a b) l l.length 0

theorem fsG_spec (p : En → Bool) (l : List En) : ∀ n k, (fsG p l n k = -1 ∧ ∀ j, k ≤ j → j < k + n → p (at' l j) = false) ∨
    ∃ i : Nat, fsG p l n k = i ∧ k ≤ i ∧ i < k + n ∧ p (at' l i) = true ∧ ∀ j, k ≤ j → j < i → p (at' l j) = false
  | 0, k => .inl ⟨rfl, fun j h1 h2 => by omega⟩
  | n + 1, k => by
    unfold fsG
    cases hp : p (at' l k) with
    | true => right; exact ⟨k, by simp, Nat.le_refl _, by omega, hp, fun j h1 h2 => by omega⟩
    | false =>
      simp only [Bool.false_eq_true, if_false]
      rcases fsG_spec p l n (k + 1) with ⟨h1, h2⟩ | ⟨i, h1, h2, h3, h4, h5⟩
      · left
        refine ⟨h1, fun j h3 h4 => ?_⟩
        rcases Nat.lt_or_eq_of_le h3 with h | rfl
        · exact h2 j h (by omega)
        · exact hp
      · right
        refine ⟨i, h1, by omega, by omega, h4, fun j h6 h7 => ?_⟩
        rcases Nat.lt_or_eq_of_le h6 with h | rfl
        · exact h5 j h h7
        · exact hp

/-- It is the first one that matches, or there is none. -/
def FirstAt (l : List En) (a b : BitVec 64) (r : Int) : Prop :=
  (r = -1 ∧ ∀ j, j < l.length → mtE (at' l j) a b = false) ∨ ∃ i : Nat, r = i ∧ i < l.length ∧ mtE (at' l i) a b = true ∧ ∀ j, j < i → mtE (at' l j) a b = false

theorem FirstAt.uniq {l : List En} {a b : BitVec 64} {r s : Int} (h : FirstAt l a b r) (h' : FirstAt l a b s) : r = s := by
  rcases h with ⟨rfl, h⟩ | ⟨i, rfl, hi, h1, h2⟩ <;> rcases h' with ⟨rfl, g⟩ | ⟨k, rfl, hk, g1, g2⟩
  · rfl
  · rw [h k hk] at g1; cases g1
  · rw [g i hi] at h1; cases h1
  · rcases Nat.lt_trichotomy i k with h | h | h
    · rw [g2 i h] at h1; cases h1
    · rw [h]
    · rw [h2 k h] at g1; cases g1

/-- The best one of the last n; -1: none matches. -/
def bsG (l : List En) (a b : BitVec 64) : Nat → Int
  | 0 => -1
  | n + 1 => if mtE (at' l (l.length - 1 - n)) a b && (decide (bsG l a b n < 0) || decide ((at' l (l.length - 1 - n)).len ≥ (at' l (bsG l a b n).toNat).len)) then ((l.length - 1 - n : Nat) : Int) else bsG l a b n

/-- The best one; -1: none matches. -/
def bsI (l : List En) (a b : BitVec 64) : Int := bsG l a b l.length

/-- Of those from k on it is the best one, or none matches. -/
def BestFrom (l : List En) (a b : BitVec 64) (k : Nat) (r : Int) : Prop :=
  (r = -1 ∧ ∀ j, k ≤ j → j < l.length → mtE (at' l j) a b = false) ∨
  ∃ i : Nat, r = i ∧ k ≤ i ∧ i < l.length ∧ mtE (at' l i) a b = true ∧ ∀ j, k ≤ j → j < l.length → mtE (at' l j) a b = true → (at' l j).len ≤ (at' l i).len ∧ (j < i → (at' l j).len < (at' l i).len)

theorem bsG_spec (l : List En) (a b : BitVec 64) : ∀ n, n ≤ l.length → BestFrom l a b (l.length - n) (bsG l a b n)
  | 0, _ => .inl ⟨rfl, fun j h1 h2 => by omega⟩
  | n + 1, hn => by
    have ih := bsG_spec l a b n (by omega)
    generalize hr : bsG l a b n = r at ih
    have e1 : l.length - (n + 1) = l.length - 1 - n := by omega
    have e2 : l.length - n = (l.length - 1 - n) + 1 := by omega
    rw [e2] at ih
    rw [e1]
    unfold bsG
    rw [hr]
    generalize hk : l.length - 1 - n = k at *
    have hkl : k < l.length := by omega
    cases hm : mtE (at' l k) a b with
    | false =>
      simp only [Bool.false_and, Bool.false_eq_true, if_false]
      rcases ih with ⟨h1, h2⟩ | ⟨i, h1, h2, h3, h4, h5⟩
      · left
        refine ⟨h1, fun j h3 h4 => ?_⟩
        rcases Nat.lt_or_eq_of_le h3 with h | rfl
        · exact h2 j h h4
        · exact hm
      · right
        refine ⟨i, h1, by omega, h3, h4, fun j h6 h7 h8 => ?_⟩
        rcases Nat.lt_or_eq_of_le h6 with h | rfl
        · exact h5 j h h7 h8
        · rw [hm] at h8; cases h8
    | true =>
      rcases ih with ⟨rfl, h2⟩ | ⟨i, rfl, h2, h3, h4, h5⟩
      · right
        refine ⟨k, by simp, Nat.le_refl _, hkl, hm, fun j h6 h7 h8 => ?_⟩
        rcases Nat.lt_or_eq_of_le h6 with h | rfl
        · rw [h2 j h h7] at h8; cases h8
        · exact ⟨Int.le_refl _, fun h => by omega⟩
      · have e3 : ((i : Int)).toNat = i := by omega
        rw [e3, show decide ((i : Int) < 0) = false from by simp]
        simp only [Bool.true_and, Bool.false_or]
        by_cases hl : (at' l k).len ≥ (at' l i).len
        · rw [if_pos (by simpa using hl)]
          right
          refine ⟨k, rfl, Nat.le_refl _, hkl, hm, fun j h6 h7 h8 => ?_⟩
          rcases Nat.lt_or_eq_of_le h6 with h | rfl
          · have := (h5 j h h7 h8).1
            exact ⟨by omega, fun h' => by omega⟩
          · exact ⟨Int.le_refl _, fun h => by omega⟩
        · rw [if_neg (by simpa using hl)]
          right
          refine ⟨i, rfl, by omega, h3, h4, fun j h6 h7 h8 => ?_⟩
          rcases Nat.lt_or_eq_of_le h6 with h | rfl
          · exact h5 j h h7 h8
          · exact ⟨by omega, fun _ => by omega⟩

theorem bsI_spec (l : List En) (a b : BitVec 64) : BestFrom l a b 0 (bsI l a b) := by
  have := bsG_spec l a b l.length (Nat.le_refl _)
  rwa [Nat.sub_self] at this

theorem BestFrom.uniq {l : List En} {a b : BitVec 64} {r s : Int} (h : BestFrom l a b 0 r) (h' : BestFrom l a b 0 s) : r = s := by
  rcases h with ⟨rfl, h⟩ | ⟨i, rfl, _, hi, h1, h2⟩ <;> rcases h' with ⟨rfl, g⟩ | ⟨k, rfl, _, hk, g1, g2⟩
  · rfl
  · rw [h k (by omega) hk] at g1; cases g1
  · rw [g i (by omega) hi] at h1; cases h1
  · have a1 := h2 k (by omega) hk g1
    have a2 := g2 i (by omega) hi h1
    rcases Nat.lt_trichotomy i k with h | h | h
    · have := a2.2 h; omega
    · rw [h]
    · have := a1.2 h; omega

/-- What is to be done: the best one's action; 0: none matches. -/
def tlI (l : List En) (a b : BitVec 64) : Int := if bsI l a b < 0 then 0 else (at' l (bsI l a b).toNat).act

/-- No one stands behind one that it must stand above. -/
def orE (l : List En) : Bool := decide (∀ i, i < l.length → ∀ k, k < l.length → i < k → abE (at' l k) (at' l i) = false)

theorem orE_iff {l : List En} : orE l = true ↔ ∀ i, i < l.length → ∀ k, k < l.length → i < k → abE (at' l k) (at' l i) = false := by
  unfold orE; rw [decide_eq_true_eq]

end Go.Sx.M
end

section
/-
  Plain mathematics: the order of entries, sorted rows. No program.
-/
namespace Go.Sx.M

/-- May an entry be? -/
def rtE (x : En) : Bool := (x.v &&& x.m == x.v && x.w &&& x.n == x.w) && (decide (x.len ≥ 0) && (decide (x.len ≤ 128) && (decide (x.act ≥ 1) && decide (x.act ≤ 255))))

/-- Are word and length the same? -/
def alE (x y : En) : Bool := (x.v == y.v && x.w == y.w && (x.m == y.m && x.n == y.n)) && x.len == y.len

/-- No less than 0. -/
def mx0 (n : Int) : Int := if 0 > n then 0 else n

def cmpZ (m n : Int) : Int := if m < n then -1 else if n < m then 1 else 0
def orZ (m n : Int) : Int := if m = 0 then n else m

/-- Which of two entries comes first: -1 the one, 1 the other one, 0: they are the same. -/
def cpE (x y : En) : Int := orZ (cmpZ y.len x.len) (orZ (cmpV (V x.v x.w) (V y.v y.w)) (orZ (cmpV (V x.m x.n) (V y.m y.n)) (cmpZ x.act y.act)))

theorem cmpV_turn (m n : Nat) : cmpV m n = - cmpV n m := by
  unfold cmpV
  rcases Nat.lt_trichotomy m n with h | h | h
  · rw [if_neg (by omega), if_pos h, if_neg (by omega), if_neg (by omega)]
  · rw [if_pos h, if_pos h.symm]; rfl
  · rw [if_neg (by omega), if_neg (by omega), if_neg (by omega), if_pos h]; rfl

theorem cmpV_zero {m n : Nat} : cmpV m n = 0 ↔ m = n := by
  unfold cmpV
  split
  · simp [*]
  · split <;> simp [*]

theorem cmpZ_turn (m n : Int) : cmpZ m n = - cmpZ n m := by
  unfold cmpZ
  rcases Int.lt_trichotomy m n with h | h | h
  · rw [if_pos h, if_neg (by omega), if_pos h]
  · rw [if_neg (by omega), if_neg (by omega), if_neg (by omega), if_neg (by omega)]; rfl
  · rw [if_neg (by omega), if_pos h, if_pos h]; rfl

theorem cmpZ_zero {m n : Int} : cmpZ m n = 0 ↔ m = n := by
  unfold cmpZ
  split
  · simp; omega
  · split
    · simp; omega
    · simp; omega

theorem orZ_turn {m n m' n' : Int} (h1 : m = - m') (h2 : n = - n') : orZ m n = - orZ m' n' := by
  unfold orZ; split <;> split <;> omega

theorem orZ_zero {m n : Int} : orZ m n = 0 ↔ m = 0 ∧ n = 0 := by
  unfold orZ; split <;> simp [*]

theorem cpE_turn (x y : En) : cpE x y = - cpE y x :=
  orZ_turn (cmpZ_turn _ _) (orZ_turn (cmpV_turn _ _) (orZ_turn (cmpV_turn _ _) (cmpZ_turn _ _)))

theorem cpE_zero {x y : En} : cpE x y = 0 ↔ x = y := by
  unfold cpE
  rw [orZ_zero, orZ_zero, orZ_zero, cmpZ_zero, cmpV_zero, cmpV_zero, cmpZ_zero, V_inj, V_inj]
  constructor
  · rintro ⟨h1, ⟨h2, h3⟩, ⟨h4, h5⟩, h6⟩
    cases x; cases y; simp_all
  · rintro rfl; simp

theorem cmpV_vals (m n : Nat) : (cmpV m n = -1 ∧ m < n) ∨ (cmpV m n = 0 ∧ m = n) ∨ (cmpV m n = 1 ∧ n < m) := by
  unfold cmpV
  rcases Nat.lt_trichotomy m n with h | h | h
  · left; rw [if_neg (by omega), if_pos h]; exact ⟨rfl, h⟩
  · right; left; rw [if_pos h]; exact ⟨rfl, h⟩
  · right; right; rw [if_neg (by omega), if_neg (by omega)]; exact ⟨rfl, h⟩

theorem cmpZ_vals (m n : Int) : (cmpZ m n = -1 ∧ m < n) ∨ (cmpZ m n = 0 ∧ m = n) ∨ (cmpZ m n = 1 ∧ n < m) := by
  unfold cmpZ
  rcases Int.lt_trichotomy m n with h | h | h
  · left; rw [if_pos h]; exact ⟨rfl, h⟩
  · right; left; rw [if_neg (by omega), if_neg (by omega)]; exact ⟨rfl, h⟩
  · right; right; rw [if_neg (by omega), if_pos h]; exact ⟨rfl, h⟩

/-- The order as one of numbers: no entry is before itself; of three in a row the first one is before the last one. -/
theorem cpE_le {x y : En} : cpE x y ≤ 0 ↔ y.len < x.len ∨ (y.len = x.len ∧ (V x.v x.w < V y.v y.w ∨ (V x.v x.w = V y.v y.w ∧ (V x.m x.n < V y.m y.n ∨ (V x.m x.n = V y.m y.n ∧ x.act ≤ y.act))))) := by
  unfold cpE orZ
  rcases cmpZ_vals y.len x.len with ⟨a, a'⟩ | ⟨a, a'⟩ | ⟨a, a'⟩ <;> rw [a]
  · simp; omega
  · rcases cmpV_vals (V x.v x.w) (V y.v y.w) with ⟨b, b'⟩ | ⟨b, b'⟩ | ⟨b, b'⟩ <;> rw [b]
    · simp; omega
    · rcases cmpV_vals (V x.m x.n) (V y.m y.n) with ⟨c, c'⟩ | ⟨c, c'⟩ | ⟨c, c'⟩ <;> rw [c]
      · simp; omega
      · rcases cmpZ_vals x.act y.act with ⟨d, d'⟩ | ⟨d, d'⟩ | ⟨d, d'⟩ <;> rw [d] <;> simp <;> omega
      · simp; omega
    · simp; omega
  · simp; omega

theorem cpE_trans {x y z : En} (h1 : cpE x y ≤ 0) (h2 : cpE y z ≤ 0) : cpE x z ≤ 0 := by
  rw [cpE_le] at *
  omega

theorem cpE_total (x y : En) : cpE x y ≤ 0 ∨ cpE y x ≤ 0 := by
  have := cpE_turn x y; omega

theorem cpE_anti {x y : En} (h1 : cpE x y ≤ 0) (h2 : cpE y x ≤ 0) : x = y := by
  have := cpE_turn x y
  exact cpE_zero.1 (by omega)

/-- Each one is no later than all behind it. -/
def Sorted : List En → Prop := List.Pairwise fun x y => cpE x y ≤ 0

/-- Two sorted rows of the same entries are the same. -/
theorem sorted_uniq : ∀ {l m : List En}, l.Perm m → Sorted l → Sorted m → l = m
  | [], m, h, _, _ => (List.nil_perm.1 h).symm
  | x :: l, [], h, _, _ => absurd (List.perm_nil.1 h) (by simp)
  | x :: l, y :: m, h, hl, hm => by
    have hl' := List.pairwise_cons.1 hl
    have hm' := List.pairwise_cons.1 hm
    have e : x = y := by
      have hx : x ∈ y :: m := h.mem_iff.1 (by simp)
      have hy : y ∈ x :: l := h.mem_iff.2 (by simp)
      rcases List.mem_cons.1 hx with e | hx
      · exact e
      · rcases List.mem_cons.1 hy with e | hy
        · exact e.symm
        · exact cpE_anti (hl'.1 y hy) (hm'.1 x hx)
    subst e
    rw [sorted_uniq (List.Perm.cons_inv h) hl'.2 hm'.2]

/-- Put ahead of the first one that is behind it. -/
def insE (out : List En) (x : En) : List En := out.takeWhile (fun y => decide (cpE y x ≤ 0)) ++ x :: out.dropWhile (fun y => decide (cpE y x ≤ 0))

/-- A row sorted, one by one. -/
def srE : List En → List En := List.foldl insE []

theorem insE_perm (out : List En) (x : En) : (insE out x).Perm (out ++ [x]) := by
  unfold insE
  refine List.perm_middle.trans ?_
  rw [List.takeWhile_append_dropWhile]
  exact (List.perm_append_singleton x out).symm

theorem insE_sorted {out : List En} (h : Sorted out) (x : En) : Sorted (insE out x) := by
  unfold insE
  induction out with
  | nil => simp [Sorted]
  | cons y l ih =>
    have hh := List.pairwise_cons.1 h
    by_cases hc : cpE y x ≤ 0
    · rw [List.takeWhile_cons_of_pos (by simpa using hc), List.dropWhile_cons_of_pos (by simpa using hc)]
      refine List.pairwise_cons.2 ⟨fun z hz => ?_, ih hh.2⟩
      rcases List.mem_append.1 hz with h1 | h1
      · exact hh.1 z ((List.takeWhile_sublist _).subset h1)
      · rcases List.mem_cons.1 h1 with rfl | h1
        · exact hc
        · exact hh.1 z ((List.dropWhile_sublist _).subset h1)
    · rw [List.takeWhile_cons_of_neg (by simpa using hc), List.dropWhile_cons_of_neg (by simpa using hc)]
      have hyx : cpE x y ≤ 0 := by rcases cpE_total x y with h1 | h1
                                   · exact h1
                                   · exact absurd h1 hc
      refine List.pairwise_cons.2 ⟨fun z hz => ?_, h⟩
      rcases List.mem_cons.1 hz with rfl | hz
      · exact hyx
      · exact cpE_trans hyx (hh.1 z hz)

theorem foldl_ins : ∀ (l out : List En), Sorted out → Sorted (l.foldl insE out) ∧ (l.foldl insE out).Perm (out ++ l)
  | [], out, h => ⟨h, by simp⟩
  | x :: l, out, h => by
    obtain ⟨h1, h2⟩ := foldl_ins l (insE out x) (insE_sorted h x)
    refine ⟨h1, h2.trans ?_⟩
    have := (insE_perm out x).append_right l
    simpa using this

theorem srE_sorted (l : List En) : Sorted (srE l) := (foldl_ins l [] (by simp [Sorted])).1
theorem srE_perm (l : List En) : (srE l).Perm l := (foldl_ins l [] (by simp [Sorted])).2

/-- What is sorted, of the same entries, is it. -/
theorem srE_uniq {l m : List En} (h : Sorted m) (hp : m.Perm l) : m = srE l := sorted_uniq (hp.trans (srE_perm l).symm) h (srE_sorted l)

theorem srE_length (l : List En) : (srE l).length = l.length := (srE_perm l).length_eq

/-- A sorted row is ordered. -/
theorem sorted_ordered {l : List En} (h : Sorted l) : orE l = true := by
  rw [orE_iff]
  intro i hi k hk hik
  have hp := List.pairwise_iff_getElem.1 h i k hi hk hik
  have e1 : l[i] = at' l i := by have := at_get hi; rw [List.getElem?_eq_getElem hi] at this; exact Option.some_inj.1 this
  have e2 : l[k] = at' l k := by have := at_get hk; rw [List.getElem?_eq_getElem hk] at this; exact Option.some_inj.1 this
  rw [e1, e2, cpE_le] at hp
  unfold abE
  rw [Bool.and_eq_false_iff]
  left
  rw [decide_eq_false_iff_not]
  omega

end Go.Sx.M
end

section
/-
  Plain mathematics: rows of entries, looked at in their order: the best one; the least length; one behind another one. No program.
-/
namespace Go.Sx.M

/-- None of the first n stands behind one that it must stand above. -/
def OrTo (l : List En) (n : Nat) : Prop := ∀ k, k < n → ∀ i, i < k → abE (at' l k) (at' l i) = false

theorem OrTo.all {l : List En} : orE l = true ↔ OrTo l l.length := by
  rw [orE_iff]
  exact ⟨fun h k hk i hi => h i (by omega) k hk hi, fun h i _ k hk hik => h k hk i hik⟩

theorem OrTo.next {l : List En} {n : Nat} (h : OrTo l n) (hs : ∀ i, i < n → abE (at' l n) (at' l i) = false) : OrTo l (n + 1) := fun k hk i hi => by
  rcases Nat.lt_or_eq_of_le (Nat.le_of_lt_succ hk) with h' | rfl
  · exact h k h' i hi
  · exact hs i hi

end Go.Sx.M
end

section
/-
  Plain mathematics: what is to be done does not hang on the order of a row. No program.
-/
namespace Go.Sx.M

/-- No two that match are as long, with other actions. -/
def Clear (l : List En) (a b : BitVec 64) : Prop := ∀ x, x ∈ l → ∀ y, y ∈ l → mtE x a b = true → mtE y a b = true → x.len = y.len → x.act = y.act

theorem tell_perm {l m : List En} {a b : BitVec 64} (hp : l.Perm m) (hc : Clear l a b) : tlI l a b = tlI m a b := by
  have cases' : ∀ k : List En, (bsI k a b < 0 ∧ ∀ x ∈ k, mtE x a b = false) ∨ ∃ x, x ∈ k ∧ mtE x a b = true ∧ tlI k a b = x.act ∧ ∀ y ∈ k, mtE y a b = true → y.len ≤ x.len := by
    intro k
    rcases bsI_spec k a b with ⟨h1, h2⟩ | ⟨i, h1, _, h2, h3, h4⟩
    · left
      refine ⟨by omega, fun x hx => ?_⟩
      obtain ⟨j, hj, rfl⟩ := mem_at hx
      exact h2 j (by omega) hj
    · right
      refine ⟨at' k i, at_mem h2, h3, ?_, fun y hy hm => ?_⟩
      · unfold tlI
        rw [if_neg (by omega), h1]; rfl
      · obtain ⟨j, hj, rfl⟩ := mem_at hy
        exact (h4 j (by omega) hj hm).1
  rcases cases' l with ⟨h1, h2⟩ | ⟨x, hx, hxm, hxa, hxl⟩ <;> rcases cases' m with ⟨g1, g2⟩ | ⟨y, hy, hym, hya, hyl⟩
  · unfold tlI; rw [if_pos h1, if_pos g1]
  · rw [h2 y (hp.mem_iff.2 hy)] at hym; cases hym
  · rw [g2 x (hp.mem_iff.1 hx)] at hxm; cases hxm
  · rw [hxa, hya]
    have hy' := hp.mem_iff.2 hy
    have hx' := hp.mem_iff.1 hx
    exact hc x hx y hy' hxm hym (Int.le_antisymm (hyl x hx' hxm) (hxl y hy' hym))

/-- None of the first n is as long as one ahead of it, with another action, where both match. -/
def ClearTo (l : List En) (a b : BitVec 64) (n : Nat) : Prop := ∀ i, i < n → ∀ k, k < i → (at' l i).len = (at' l k).len → mtE (at' l i) a b = true → mtE (at' l k) a b = true → (at' l i).act = (at' l k).act

theorem ClearTo.all {l : List En} {a b : BitVec 64} (h : ClearTo l a b l.length) : Clear l a b := by
  intro x hx y hy hxm hym hl
  obtain ⟨i, hi, rfl⟩ := mem_at hx
  obtain ⟨k, hk, rfl⟩ := mem_at hy
  rcases Nat.lt_trichotomy i k with hlt | rfl | hgt
  · exact (h k hk i hlt hl.symm hym hxm).symm
  · rfl
  · exact h i hi k hgt hl hxm hym

end Go.Sx.M
end

section
/-
  Plain mathematics: entries that differ in one bit are merged. No program.
-/
namespace Go.Sx.M

/-- Do they differ at a bit that the one tells? -/
def dfB (v w m n c d : BitVec 64) : Nat → Bool := bitAt ((v ^^^ c) &&& m) ((w ^^^ d) &&& n)

theorem dfB_eq (v w m n c d : BitVec 64) (i : Nat) : dfB v w m n c d i = (bitAt m n i && (!bitAt v w i == bitAt c d i)) := by
  unfold dfB
  rw [bitAt_and, bitAt_xor]
  cases bitAt m n i <;> cases bitAt v w i <;> cases bitAt c d i <;> rfl

theorem cf_more {f : Nat → Bool} {i j N : Nat} (hij : i < j) (hj : j < N) (hi : f i = true) (hf : f j = true) : 2 ≤ cf f N := by
  have h1 : cf f (i + 1) = cf f i + (if f i = true then 1 else 0) := rfl
  have h2 : cf f (j + 1) = cf f j + (if f j = true then 1 else 0) := rfl
  have h3 := cf_mono f (show i + 1 ≤ j by omega)
  have h4 := cf_mono f (show j + 1 ≤ N by omega)
  rw [if_pos hi] at h1
  rw [if_pos hf] at h2
  omega

theorem cf_some {f : Nat → Bool} : ∀ {N : Nat}, 1 ≤ cf f N → ∃ i, i < N ∧ f i = true
  | 0, h => by simp [cf] at h
  | N + 1, h => by
    have e : cf f (N + 1) = cf f N + (if f N = true then 1 else 0) := rfl
    by_cases hf : f N = true
    · exact ⟨N, by omega, hf⟩
    · rw [if_neg hf] at e
      obtain ⟨i, h1, h2⟩ := cf_some (f := f) (N := N) (by omega)
      exact ⟨i, by omega, h2⟩

/-- May two entries be merged? -/
def mgE (x y : En) : Bool := decide (x.len = y.len) && (decide (x.act = y.act) && mgB x.v x.w x.m x.n y.v y.w y.m y.n)

/-- The two as one. -/
def jnE (x y : En) : En := ⟨x.v &&& (x.m ^^^ (x.v ^^^ y.v) &&& x.m), x.w &&& (x.n ^^^ (x.w ^^^ y.w) &&& x.n), x.m ^^^ (x.v ^^^ y.v) &&& x.m, x.n ^^^ (x.w ^^^ y.w) &&& x.n, x.len, x.act⟩

theorem mgE_iff {x y : En} : mgE x y = true ↔ x.len = y.len ∧ x.act = y.act ∧ mgB x.v x.w x.m x.n y.v y.w y.m y.n = true := by
  unfold mgE
  rw [Bool.and_eq_true, Bool.and_eq_true, decide_eq_true_eq, decide_eq_true_eq]

/-- The bit at which they differ; all others that they tell are the same. -/
theorem mgE_bit {x y : En} (h : mgE x y = true) : x.m = y.m ∧ x.n = y.n ∧ ∃ j, j < 128 ∧ bitAt x.m x.n j = true ∧ bitAt y.v y.w j = (!bitAt x.v x.w j) ∧
    (∀ i, i < 128 → (bitAt (jnE x y).m (jnE x y).n i = true ↔ bitAt x.m x.n i = true ∧ i ≠ j)) ∧
    ∀ i, i < 128 → i ≠ j → bitAt x.m x.n i = true → bitAt (jnE x y).v (jnE x y).w i = bitAt x.v x.w i ∧ bitAt y.v y.w i = bitAt x.v x.w i := by
  obtain ⟨_, _, h⟩ := mgE_iff.1 h
  unfold mgB at h
  simp only [Bool.and_eq_true, beq_iff_eq] at h
  obtain ⟨⟨h1, h2⟩, h3⟩ := h
  have h3 : cf (dfB x.v x.w x.m x.n y.v y.w) 128 = 1 := h3
  obtain ⟨j, hj, hD⟩ := cf_some (f := dfB x.v x.w x.m x.n y.v y.w) (N := 128) (by omega)
  have hu : ∀ i, i < 128 → i ≠ j → dfB x.v x.w x.m x.n y.v y.w i = false := fun i hi hne => by
    cases hh : dfB x.v x.w x.m x.n y.v y.w i with
    | false => rfl
    | true =>
      rcases Nat.lt_or_gt_of_ne hne with hl | hl
      · have := cf_more hl hj hh hD; omega
      · have := cf_more hl hi hD hh; omega
  have hDj := dfB_eq x.v x.w x.m x.n y.v y.w j
  rw [hD] at hDj
  have hmj : bitAt x.m x.n j = true := (Bool.and_eq_true_iff.1 hDj.symm).1
  have hvj : (!bitAt x.v x.w j == bitAt y.v y.w j) = true := (Bool.and_eq_true_iff.1 hDj.symm).2
  have em : ∀ i, bitAt (jnE x y).m (jnE x y).n i = (bitAt x.m x.n i ^^ dfB x.v x.w x.m x.n y.v y.w i) := fun i => bitAt_xor _ _ _ _ _
  have hm : ∀ i, i < 128 → (bitAt (jnE x y).m (jnE x y).n i = true ↔ bitAt x.m x.n i = true ∧ i ≠ j) := fun i hi => by
    rw [em]
    by_cases hij : i = j
    · subst hij; rw [hmj, hD]; simp
    · rw [hu i hi hij]; simp [hij]
  refine ⟨h1, h2, j, hj, hmj, ?_, hm, fun i hi hne hmi => ⟨?_, ?_⟩⟩
  · revert hvj
    cases bitAt x.v x.w j <;> cases bitAt y.v y.w j <;> simp
  · have e : bitAt (jnE x y).v (jnE x y).w i = (bitAt x.v x.w i && bitAt (jnE x y).m (jnE x y).n i) := bitAt_and _ _ _ _ _
    rw [e, (hm i hi).2 ⟨hmi, hne⟩, Bool.and_true]
  · have := dfB_eq x.v x.w x.m x.n y.v y.w i
    rw [hu i hi hne, hmi] at this
    revert this
    cases bitAt x.v x.w i <;> cases bitAt y.v y.w i <;> simp

/-- It matches what one of them matches. -/
theorem jn_match {x y : En} (h : mgE x y = true) (a b : BitVec 64) : mtE (jnE x y) a b = (mtE x a b || mtE y a b) := by
  obtain ⟨h1, h2, j, hj, hmj, hd, hm, hs⟩ := mgE_bit h
  unfold mtE
  rw [Bool.eq_iff_iff, Bool.or_eq_true, wmB_iff, wmB_iff, wmB_iff, ← h1, ← h2]
  constructor
  · intro hz
    have hz : ∀ i, i < 128 → i ≠ j → bitAt x.m x.n i = true → bitAt x.v x.w i = bitAt a b i := fun i hi hne hmi => by
      rw [← (hs i hi hne hmi).1]; exact hz i hi ((hm i hi).2 ⟨hmi, hne⟩)
    by_cases hx : bitAt x.v x.w j = bitAt a b j
    · left
      intro i hi hmi
      by_cases hij : i = j
      · rw [hij]; exact hx
      · exact hz i hi hij hmi
    · right
      intro i hi hmi
      by_cases hij : i = j
      · rw [hij, hd]
        revert hx
        cases bitAt x.v x.w j <;> cases bitAt a b j <;> simp
      · rw [(hs i hi hij hmi).2]; exact hz i hi hij hmi
  · rintro hz i hi hmi
    obtain ⟨hmi, hne⟩ := (hm i hi).1 hmi
    obtain ⟨e1, e2⟩ := hs i hi hne hmi
    rw [e1]
    rcases hz with hz | hz
    · exact hz i hi hmi
    · rw [← e2]; exact hz i hi hmi

/-- It meets what one of them meets. -/
theorem jn_meet {x y : En} (h : mgE x y = true) (z : En) : meE (jnE x y) z = (meE x z || meE y z) := by
  obtain ⟨h1, h2, j, hj, hmj, hd, hm, hs⟩ := mgE_bit h
  unfold meE
  rw [Bool.eq_iff_iff, Bool.or_eq_true, wtB_iff, wtB_iff, wtB_iff, ← h1, ← h2]
  constructor
  · intro hz
    have hz : ∀ i, i < 128 → i ≠ j → bitAt x.m x.n i = true → bitAt z.m z.n i = true → bitAt x.v x.w i = bitAt z.v z.w i := fun i hi hne hmi hzi => by
      rw [← (hs i hi hne hmi).1]; exact hz i hi ((hm i hi).2 ⟨hmi, hne⟩) hzi
    by_cases hx : bitAt x.v x.w j = bitAt z.v z.w j
    · left
      intro i hi hmi hzi
      by_cases hij : i = j
      · rw [hij]; exact hx
      · exact hz i hi hij hmi hzi
    · right
      intro i hi hmi hzi
      by_cases hij : i = j
      · rw [hij, hd]
        revert hx
        cases bitAt x.v x.w j <;> cases bitAt z.v z.w j <;> simp
      · rw [(hs i hi hij hmi).2]; exact hz i hi hij hmi hzi
  · rintro hz i hi hmi hzi
    obtain ⟨hmi, hne⟩ := (hm i hi).1 hmi
    obtain ⟨e1, e2⟩ := hs i hi hne hmi
    rw [e1]
    rcases hz with hz | hz
    · exact hz i hi hmi hzi
    · rw [← e2]; exact hz i hi hmi hzi

/-- The first two that may be merged, as one; the others. -/
def m1E : List En → Option (En × List En)
  | [] => none
  | x :: l => match l.find? (mgE x) with
    | some y => some (jnE x y, l.eraseP (mgE x))
    | none => match m1E l with
      | some (j, r) => some (j, x :: r)
      | none => none

/-- A sorted row, once. -/
def m2E (l : List En) : Option (List En) := match m1E l with
  | some (j, r) => some (srE (j :: r))
  | none => none

def mrG : Nat → List En → List En
  | 0, l => l
  | n + 1, l => match m2E l with
    | some m => mrG n m
    | none => l

/-- A row, merged. -/
def mrE (l : List En) : List En := mrG l.length (srE l)

/-- No two as long meet. -/
def siE (l : List En) : Bool := decide (∀ i, i < l.length → ∀ k, k < i → (at' l i).len = (at' l k).len → meE (at' l i) (at' l k) = false)

/-- What the first two are: some two. -/
theorem m1E_some : ∀ {l : List En} {j : En} {r : List En}, m1E l = some (j, r) → ∃ x y, mgE x y = true ∧ j = jnE x y ∧ l.Perm (x :: y :: r)
  | x :: l, j, r, h => by
    unfold m1E at h
    split at h
    · rename_i y hy
      cases h
      have hp := List.find?_some hy
      refine ⟨x, y, hp, rfl, List.Perm.cons _ ?_⟩
      have key : ∀ (l : List En), l.find? (mgE x) = some y → l.Perm (y :: l.eraseP (mgE x)) := by
        intro l
        induction l with
        | nil => intro h; cases h
        | cons z l ih =>
          intro h
          rw [List.find?_cons] at h
          split at h
          · rename_i hz
            cases h
            rw [List.eraseP_cons_of_pos hz]
          · rename_i hz
            rw [List.eraseP_cons_of_neg (by rw [hz]; simp)]
            exact ((ih h).cons z).trans (List.Perm.swap _ _ _)
      exact key l hy
    · split at h
      · rename_i j' r' h'
        cases h
        obtain ⟨x', y', h1, h2, h3⟩ := m1E_some h'
        refine ⟨x', y', h1, h2, (h3.cons x).trans ?_⟩
        exact (List.Perm.swap _ _ _).trans ((List.Perm.swap _ _ _).cons _)
      · cases h

theorem m1E_none : ∀ {l : List En}, m1E l = none ↔ l.Pairwise fun x y => mgE x y = false
  | [] => by simp [m1E]
  | x :: l => by
    rw [List.pairwise_cons]
    unfold m1E
    split
    · rename_i y hy
      have hp := List.find?_some hy
      have hm := List.mem_of_find?_eq_some hy
      constructor
      · intro h; cases h
      · intro h
        have := h.1 y hm
        rw [hp] at this; cases this
    · rename_i hy
      have hn : ∀ y ∈ l, mgE x y = false := fun y hm => by
        have := List.find?_eq_none.1 hy y hm
        simpa using this
      split
      · rename_i j r h'
        constructor
        · intro h; cases h
        · intro h
          have := m1E_none.2 h.2
          rw [this] at h'; cases h'
      · rename_i h'
        exact ⟨fun _ => ⟨hn, m1E_none.1 h'⟩, fun _ => rfl⟩

theorem m1E_length {l : List En} {j : En} {r : List En} (h : m1E l = some (j, r)) : l.length = r.length + 2 := by
  obtain ⟨x, y, _, _, hp⟩ := m1E_some h
  have := hp.length_eq
  simpa using this

theorem m2E_length {l m : List En} (h : m2E l = some m) : l.length = m.length + 1 := by
  unfold m2E at h
  split at h
  · rename_i j r h'
    cases h
    rw [srE_length, m1E_length h', List.length_cons]
  · cases h

/-- What goes from a row to the next goes to the merged one. -/
theorem mrG_ind {Q : List En → Prop} (hs : ∀ l x y r, mgE x y = true → l.Perm (x :: y :: r) → Q l → Q (srE (jnE x y :: r))) : ∀ (n : Nat) {l : List En}, Q l → Q (mrG n l)
  | 0, _, h => h
  | n + 1, l, h => by
    unfold mrG
    split
    · rename_i m hm
      refine mrG_ind hs n ?_
      unfold m2E at hm
      split at hm
      · rename_i j r h'
        cases hm
        obtain ⟨x, y, h1, rfl, h3⟩ := m1E_some h'
        exact hs l x y r h1 h3 h
      · cases hm
    · exact h

theorem mrG_stop {n : Nat} {l : List En} (h : m2E l = none) : mrG n l = l := by
  cases n with
  | zero => rfl
  | succ n => unfold mrG; rw [h]

theorem mrG_sorted (n : Nat) {l : List En} (h : Sorted l) : Sorted (mrG n l) := mrG_ind (Q := Sorted) (fun _ _ _ _ _ _ _ => srE_sorted _) n h

theorem mrE_sorted (l : List En) : Sorted (mrE l) := mrG_sorted _ (srE_sorted l)

theorem srE_of_perm {l m : List En} (h : l.Perm m) : srE l = srE m := srE_uniq (srE_sorted l) ((srE_perm l).trans h)

theorem mrE_length (l : List En) : (mrE l).length ≤ l.length ∧ (l.length = 0 ∨ 0 < (mrE l).length) := by
  have := mrG_ind (Q := fun m => m.length ≤ l.length ∧ (l.length = 0 ∨ 0 < m.length)) (fun m x y r _ hp hq => by
    have := hp.length_eq
    rw [srE_length]
    simp only [List.length_cons] at this ⊢
    omega) l.length (l := srE l) (by rw [srE_length]; omega)
  exact this

theorem siE_pair {l : List En} : siE l = true ↔ l.Pairwise fun x y => x.len = y.len → meE x y = false := by
  unfold siE
  rw [decide_eq_true_eq, List.pairwise_iff_getElem]
  have e : ∀ i (hi : i < l.length), l[i] = at' l i := fun i hi => by have := at_get hi; rw [List.getElem?_eq_getElem hi] at this; exact Option.some_inj.1 this
  constructor
  · intro h i j hi hj hij
    rw [e i hi, e j hj, meE_comm]
    exact fun hl => h j hj i hij hl.symm
  · intro h i hi k hk hl
    have := h k i (by omega) hi hk
    rw [e k (by omega), e i hi, meE_comm] at this
    exact this hl.symm

theorem siE_perm {l m : List En} (h : l.Perm m) : siE l = siE m := by
  have key : ∀ {l m : List En}, l.Perm m → siE l = true → siE m = true := fun hp hs => by
    rw [siE_pair] at hs ⊢
    exact hp.pairwise hs fun {x y} hh hl => by rw [meE_comm]; exact hh hl.symm
  rw [Bool.eq_iff_iff]
  exact ⟨key h, key h.symm⟩

/-- A simple row: no address is matched by two as long. -/
theorem siE_clear {l : List En} (h : siE l = true) (a b : BitVec 64) : Clear l a b := by
  unfold siE at h
  rw [decide_eq_true_eq] at h
  have key : ∀ i k, i < l.length → k < i → mtE (at' l i) a b = true → mtE (at' l k) a b = true → (at' l i).len = (at' l k).len → False := fun i k hi hk h1 h2 hl => by
    have := h i hi k hk hl
    have hme : meE (at' l i) (at' l k) = true := by
      unfold meE
      rw [wtB_iff]
      intro t ht k1 k2
      exact (wmB_iff.1 h1 t ht k1).trans (wmB_iff.1 h2 t ht k2).symm
    rw [hme] at this; cases this
  intro x hx y hy hxm hym hl
  obtain ⟨i, hi, rfl⟩ := mem_at hx
  obtain ⟨k, hk, rfl⟩ := mem_at hy
  rcases Nat.lt_trichotomy i k with hlt | rfl | hgt
  · exact (key k i hk hlt hym hxm hl.symm).elim
  · rfl
  · exact (key i k hi hgt hxm hym hl).elim

/-- A step of the merging: it stays simple. -/
theorem step_simple {x y : En} {r : List En} (h : mgE x y = true) (hs : siE (x :: y :: r) = true) : siE (jnE x y :: r) = true := by
  obtain ⟨hl, _, _⟩ := mgE_iff.1 h
  rw [siE_pair] at hs ⊢
  obtain ⟨h1, h2⟩ := List.pairwise_cons.1 hs
  obtain ⟨h3, h4⟩ := List.pairwise_cons.1 h2
  refine List.pairwise_cons.2 ⟨fun z hz he => ?_, h4⟩
  have he : x.len = z.len := he
  rw [jn_meet h, h1 z (List.mem_cons_of_mem _ hz) he, h3 z hz (hl.symm.trans he)]; rfl

theorem tl_cases (k : List En) (a b : BitVec 64) : (tlI k a b = 0 ∧ ∀ x ∈ k, mtE x a b = false) ∨ ∃ x, x ∈ k ∧ mtE x a b = true ∧ tlI k a b = x.act ∧ ∀ y ∈ k, mtE y a b = true → y.len ≤ x.len := by
  rcases bsI_spec k a b with ⟨h1, h2⟩ | ⟨i, h1, _, h2, h3, h4⟩
  · left
    refine ⟨by unfold tlI; rw [if_pos (by omega)], fun x hx => ?_⟩
    obtain ⟨j, hj, rfl⟩ := mem_at hx
    exact h2 j (by omega) hj
  · right
    refine ⟨at' k i, at_mem h2, h3, ?_, fun y hy hm => ?_⟩
    · unfold tlI
      rw [if_neg (by omega), h1]; rfl
    · obtain ⟨j, hj, rfl⟩ := mem_at hy
      exact (h4 j (by omega) hj hm).1

/-- What a clear row tells, by any entry that matches and is the longest one. -/
theorem tl_of {k : List En} {a b : BitVec 64} (hc : Clear k a b) {x : En} (hx : x ∈ k) (hm : mtE x a b = true) (hl : ∀ y ∈ k, mtE y a b = true → y.len ≤ x.len) : tlI k a b = x.act := by
  rcases tl_cases k a b with ⟨_, h⟩ | ⟨y, hy, hym, e, hyl⟩
  · rw [h x hx] at hm; cases hm
  · rw [e]
    exact hc y hy x hx hym hm (Int.le_antisymm (hl y hy hym) (hyl x hx hm))

/-- A step tells the same. -/
theorem step_tell {x y : En} {r : List En} (h : mgE x y = true) (hs : siE (x :: y :: r) = true) (a b : BitVec 64) : tlI (jnE x y :: r) a b = tlI (x :: y :: r) a b := by
  obtain ⟨hl, ha, _⟩ := mgE_iff.1 h
  have hc := siE_clear hs a b
  have hc' := siE_clear (step_simple h hs) a b
  have hj := jn_match h a b
  rcases tl_cases (x :: y :: r) a b with ⟨e, hn⟩ | ⟨z, hz, hzm, e, hzl⟩
  · rw [e]
    rcases tl_cases (jnE x y :: r) a b with ⟨e', _⟩ | ⟨u, hu, hum, _, _⟩
    · exact e'
    · rcases List.mem_cons.1 hu with rfl | hu
      · rw [hj, hn x (by simp), hn y (by simp)] at hum; cases hum
      · rw [hn u (by simp [hu])] at hum; cases hum
  · rw [e]
    have le : ∀ u ∈ jnE x y :: r, mtE u a b = true → u.len ≤ z.len := fun u hu hum => by
      rcases List.mem_cons.1 hu with rfl | hu
      · rw [hj, Bool.or_eq_true] at hum
        rcases hum with hm | hm
        · exact hzl x (by simp) hm
        · have := hzl y (by simp) hm
          show x.len ≤ z.len
          omega
      · exact hzl u (by simp [hu]) hum
    rcases List.mem_cons.1 hz with rfl | hz'
    · exact tl_of hc' (x := jnE z y) (by simp) (by rw [hj, hzm]; rfl) le
    · rcases List.mem_cons.1 hz' with rfl | hz'
      · exact (tl_of hc' (x := jnE x z) (by simp) (by rw [hj, hzm, Bool.or_true]) (fun u hu hum => by show u.len ≤ x.len; rw [hl]; exact le u hu hum)).trans ha
      · exact tl_of hc' (by simp [hz']) hzm le

/-- P10.2: a simple row, merged, is simple, and tells the same. -/
theorem mrE_simple {l : List En} (h : siE l = true) : siE (mrE l) = true ∧ ∀ a b, tlI (mrE l) a b = tlI l a b := by
  have hs : siE (srE l) = true := by rw [siE_perm (srE_perm l)]; exact h
  refine mrG_ind (Q := fun m => siE m = true ∧ ∀ a b, tlI m a b = tlI l a b) (fun m x y r hg hp hq => ?_) l.length ⟨hs, fun a b => tell_perm (srE_perm l) (siE_clear hs a b)⟩
  have h1 : siE (x :: y :: r) = true := by rw [← siE_perm hp]; exact hq.1
  have h2 := step_simple hg h1
  have h3 : siE (srE (jnE x y :: r)) = true := by rw [siE_perm (srE_perm _)]; exact h2
  refine ⟨h3, fun a b => ?_⟩
  rw [tell_perm (srE_perm _) (siE_clear h3 a b), step_tell hg h1, ← hq.2 a b]
  exact (tell_perm hp (siE_clear hq.1 a b)).symm

/- The first two, by a search through all pairs. -/

/-- Of the first n those that are neither the one nor the other. -/
def exL (m : List En) (i k n : Nat) : List En := ((List.range n).filter fun t => !decide (t = i) && !decide (t = k)).map (at' m)
def ex1 (m : List En) (k n : Nat) : List En := ((List.range n).filter fun t => !decide (t = k)).map (at' m)

theorem map_at (l : List En) : (List.range l.length).map (at' l) = l := by
  refine List.ext_getElem? fun i => ?_
  rw [List.getElem?_map]
  by_cases hi : i < l.length
  · rw [List.getElem?_range hi, at_get hi]; rfl
  · rw [List.getElem?_eq_none (by simpa using hi), List.getElem?_eq_none (by omega)]; rfl

theorem find_ex {p : En → Bool} : ∀ {l : List En} {k : Nat}, k < l.length → p (at' l k) = true → (∀ t, t < k → p (at' l t) = false) → l.find? p = some (at' l k) ∧ l.eraseP p = ex1 l k l.length
  | z :: l, 0, _, h1, _ => by
    have h1 : p z = true := h1
    rw [List.find?_cons_of_pos h1, List.eraseP_cons_of_pos h1]
    refine ⟨rfl, ?_⟩
    unfold ex1
    rw [List.length_cons, List.range_succ_eq_map, List.filter_cons, if_neg (by simp), List.filter_map, List.map_map]
    have : ((fun t => !decide (t = 0)) ∘ Nat.succ) = fun _ => true := by
      funext t
      simp
    rw [this, List.filter_eq_self.2 (fun _ _ => rfl)]
    exact (map_at l).symm
  | z :: l, k + 1, hk, h1, h2 => by
    have h0 : p z = false := h2 0 (by omega)
    obtain ⟨a, b⟩ := find_ex (l := l) (k := k) (by simpa using hk) h1 fun t ht => h2 (t + 1) (by omega)
    rw [List.find?_cons_of_neg (by rw [h0]; simp), List.eraseP_cons_of_neg (by rw [h0]; simp), a, b]
    refine ⟨rfl, ?_⟩
    unfold ex1
    rw [List.length_cons, List.range_succ_eq_map, List.filter_cons, if_pos (by simp), List.map_cons, List.filter_map, List.map_map]
    have : ((fun t => !decide (t = k + 1)) ∘ Nat.succ) = fun t => !decide (t = k) := by
      funext t
      simp
    rw [this]
    rfl

/-- The merged row, a step on. -/
theorem mrG_step {m m' : List En} (h : m2E m = some m') : mrG m.length m = mrG m'.length m' := by
  have hl := m2E_length h
  rw [hl]
  show (match m2E m with | some k => mrG m'.length k | none => m) = _
  rw [h]

theorem mrG_last {m : List En} (h : m2E m = none) : mrG m.length m = m := mrG_stop h

theorem mrE_first (l : List En) : mrE l = mrG (srE l).length (srE l) := by rw [srE_length]; rfl

end Go.Sx.M
end

section
/-
  Plain mathematics: entries in piles by what their words tell; a sorted row of them; merging the one at hand, by piles, is merging the first two. No program.
-/
namespace Go.Sx.M

/-- An entry without the bits that do not count. -/
def tdE (x : En) : En := ⟨x.v &&& x.m, x.w &&& x.n, x.m, x.n, x.len, x.act⟩

/-- The pile at a place, its top last. -/
def plE (p : En) (L : List En) : List En := (L.filter fun y => decide (tdE y = p)).reverse

theorem mem_plE {p y : En} {L : List En} : y ∈ plE p L ↔ y ∈ L ∧ tdE y = p := by simp [plE]

/-- Its top. -/
def topE (p : En) (L : List En) : Option En := L.find? fun y => decide (tdE y = p)

theorem topE_some {p y : En} {L : List En} (h : topE p L = some y) : y ∈ L ∧ tdE y = p := ⟨List.mem_of_find?_eq_some h, by simpa using List.find?_some h⟩

theorem topE_none {p : En} {L : List En} : topE p L = none ↔ plE p L = [] := by
  unfold topE plE
  rw [List.find?_eq_none, List.reverse_eq_nil_iff, List.filter_eq_nil_iff]

theorem topE_last {p : En} {L : List En} : (plE p L).getLast? = topE p L := by
  unfold topE plE
  rw [List.getLast?_reverse, List.head?_filter]

/-- One more. -/
def putL (x : En) (L : List En) : List En := srE (x :: L)

theorem putL_perm (x : En) (L : List En) : (putL x L).Perm (x :: L) := srE_perm _
theorem putL_sorted (x : En) (L : List En) : Sorted (putL x L) := srE_sorted _

theorem filter_sorted {p : En → Bool} {L : List En} (h : Sorted L) : Sorted (L.filter p) := h.filter _

theorem plE_put {x : En} {L : List En} (hs : Sorted L) (hle : ∀ y ∈ L, tdE y = tdE x → cpE x y ≤ 0) : plE (tdE x) (putL x L) = plE (tdE x) L ++ [x] := by
  unfold plE
  rw [← List.reverse_cons]
  congr 1
  have hp := (putL_perm x L).filter fun y => decide (tdE y = tdE x)
  rw [List.filter_cons_of_pos (by simp)] at hp
  refine sorted_uniq hp (filter_sorted (putL_sorted x L)) ?_
  refine List.pairwise_cons.2 ⟨fun y hy => ?_, filter_sorted hs⟩
  rw [List.mem_filter, decide_eq_true_eq] at hy
  exact hle y hy.1 hy.2

theorem plE_put_ne {x p : En} {L : List En} (hs : Sorted L) (hne : p ≠ tdE x) : plE p (putL x L) = plE p L := by
  unfold plE
  congr 1
  have hp := (putL_perm x L).filter fun y => decide (tdE y = p)
  rw [List.filter_cons_of_neg (by simpa using fun e => hne e.symm)] at hp
  exact sorted_uniq hp (filter_sorted (putL_sorted x L)) (filter_sorted hs)

/-- A pile's top away. -/
def drL (p : En) (L : List En) : List En := L.eraseP fun y => decide (tdE y = p)

theorem drL_sorted {p : En} {L : List En} (h : Sorted L) : Sorted (drL p L) := h.sublist List.eraseP_sublist

theorem plE_dr (p : En) : ∀ L : List En, plE p (drL p L) = (plE p L).dropLast
  | [] => rfl
  | y :: L => by
    unfold drL plE
    by_cases h : tdE y = p
    · rw [List.eraseP_cons_of_pos (by simpa using h), List.filter_cons_of_pos (by simpa using h), List.reverse_cons, List.dropLast_concat]
    · rw [List.eraseP_cons_of_neg (by simpa using h), List.filter_cons_of_neg (by simpa using h), List.filter_cons_of_neg (by simpa using h)]
      exact plE_dr p L

theorem plE_dr_ne {p q : En} (hne : q ≠ p) : ∀ L : List En, plE q (drL p L) = plE q L
  | [] => rfl
  | y :: L => by
    unfold drL plE
    by_cases h : tdE y = p
    · rw [List.eraseP_cons_of_pos (by simpa using h), List.filter_cons_of_neg (by simpa [h] using fun e => hne e.symm)]
    · rw [List.eraseP_cons_of_neg (by simpa using h)]
      have ih := plE_dr_ne hne L
      unfold drL plE at ih
      have ih := List.reverse_inj.1 ih
      rw [List.filter_cons, List.filter_cons, ih]

theorem drL_erase {x : En} {L : List En} (h : topE (tdE x) L = some x) : drL (tdE x) L = L.erase x := by
  unfold drL
  induction L with
  | nil => rfl
  | cons y L ih =>
    unfold topE at h ih
    rw [List.find?_cons] at h
    by_cases hy : tdE y = tdE x
    · rw [show decide (tdE y = tdE x) = true by simpa using hy] at h
      cases h
      rw [List.eraseP_cons_of_pos (by simp), List.erase_cons_head]
    · rw [show decide (tdE y = tdE x) = false by simpa using hy] at h
      rw [List.eraseP_cons_of_neg (by simpa using hy), List.erase_cons_tail (by simpa using fun e => hy (by rw [e])), ih h]

theorem drL_length {p : En} {L : List En} (h : plE p L ≠ []) : (drL p L).length + 1 = L.length := by
  obtain ⟨y, hy⟩ := List.exists_mem_of_ne_nil _ h
  rw [mem_plE] at hy
  have := List.length_eraseP_of_mem (p := fun y => decide (tdE y = p)) hy.1 (by simpa using hy.2)
  have h2 := List.length_pos_of_mem hy.1
  unfold drL
  omega

/-! ### one bit -/

/-- The address with bit j alone. -/
def u0 (j : Nat) : BitVec 64 := if j < 64 then BitVec.twoPow 64 (63 - j) else 0#64
def u1 (j : Nat) : BitVec 64 := if j < 64 then 0#64 else BitVec.twoPow 64 (127 - j)

theorem bitAt_u {i j : Nat} (hi : i < 128) (hj : j < 128) : bitAt (u0 j) (u1 j) i = decide (i = j) := by
  unfold bitAt u0 u1
  by_cases h1 : i < 64 <;> by_cases h2 : j < 64
  · rw [if_pos h1, if_pos h2, BitVec.getMsbD_eq_getLsbD, BitVec.getLsbD_twoPow]
    simp only [h1, decide_true, Bool.true_and]
    by_cases e : i = j
    · subst e; simp; omega
    · rw [decide_eq_false e]; simp; omega
  · rw [if_pos h1, if_neg h2]
    have : i ≠ j := by omega
    simp [this]
  · rw [if_neg h1, if_pos h2]
    have : i ≠ j := by omega
    simp [this]
  · rw [if_neg h1, if_neg h2, BitVec.getMsbD_eq_getLsbD, BitVec.getLsbD_twoPow]
    by_cases e : i = j
    · subst e; simp; omega
    · rw [decide_eq_false e]; simp; omega

/-- The place with bit j of the word turned. -/
def nbE (x : En) (j : Nat) : En := ⟨(x.v &&& x.m) ^^^ u0 j, (x.w &&& x.n) ^^^ u1 j, x.m, x.n, x.len, x.act⟩

theorem cf_one {f : Nat → Bool} {j : Nat} : ∀ {N : Nat}, j < N → (∀ i, i < N → f i = decide (i = j)) → cf f N = 1
  | 0, h, _ => by omega
  | N + 1, h, hf => by
    have e : cf f (N + 1) = cf f N + (if f N = true then 1 else 0) := rfl
    rw [e, hf N (by omega)]
    by_cases hN : N = j
    · subst hN
      have h0 : ∀ M, M ≤ N → cf f M = 0 := by
        intro M
        induction M with
        | zero => intro _; rfl
        | succ M ih =>
          intro hM
          have e : cf f (M + 1) = cf f M + (if f M = true then 1 else 0) := rfl
          rw [e, ih (by omega), hf M (by omega), decide_eq_false (by omega)]
          rfl
      rw [h0 N (Nat.le_refl _)]; simp
    · rw [cf_one (N := N) (by omega) fun i hi => hf i (by omega), decide_eq_false hN]; rfl

/-- What an entry merges with. -/
theorem mgE_nb {x y : En} : mgE x y = true ↔ ∃ j, j < 128 ∧ bitAt x.m x.n j = true ∧ tdE y = nbE x j := by
  constructor
  · intro h
    obtain ⟨hl, ha, _⟩ := mgE_iff.1 h
    obtain ⟨hm, hn, j, hj, hb, hd, _, hs⟩ := mgE_bit h
    refine ⟨j, hj, hb, ?_⟩
    have hbits : ∀ i, i < 128 → bitAt (y.v &&& y.m) (y.w &&& y.n) i = bitAt ((x.v &&& x.m) ^^^ u0 j) ((x.w &&& x.n) ^^^ u1 j) i := fun i hi => by
      rw [bitAt_and, bitAt_xor, bitAt_and, bitAt_u hi hj, ← hm, ← hn]
      by_cases e : i = j
      · subst e
        rw [hb, hd]; simp
      · rw [decide_eq_false e]
        by_cases hmi : bitAt x.m x.n i = true
        · rw [hmi, (hs i hi e hmi).2]; simp
        · have : bitAt x.m x.n i = false := by simpa using hmi
          rw [this]; simp
    obtain ⟨e1, e2⟩ := bitAt_eq hbits
    simp only [tdE, nbE]
    rw [e1, e2, ← hm, ← hn, ← hl, ← ha]
  · rintro ⟨j, hj, hb, e⟩
    simp only [tdE, nbE, En.mk.injEq] at e
    obtain ⟨e1, e2, e3, e4, e5, e6⟩ := e
    refine mgE_iff.2 ⟨e5.symm, e6.symm, ?_⟩
    unfold mgB
    rw [Bool.and_eq_true, Bool.and_eq_true, beq_iff_eq, beq_iff_eq, beq_iff_eq]
    refine ⟨⟨e3.symm, e4.symm⟩, cf_one hj fun i hi => ?_⟩
    have h1 : bitAt (y.v &&& y.m) (y.w &&& y.n) i = bitAt ((x.v &&& x.m) ^^^ u0 j) ((x.w &&& x.n) ^^^ u1 j) i := by rw [e1, e2]
    rw [e3, e4, bitAt_and, bitAt_xor, bitAt_and, bitAt_u hi hj] at h1
    rw [bitAt_and, bitAt_xor]
    by_cases e : i = j
    · subst e
      rw [hb] at h1 ⊢
      revert h1
      cases bitAt x.v x.w i <;> cases bitAt y.v y.w i <;> simp
    · rw [decide_eq_false e] at h1 ⊢
      revert h1
      cases bitAt x.v x.w i <;> cases bitAt y.v y.w i <;> cases bitAt x.m x.n i <;> simp

theorem mgE_symm {x y : En} (h : mgE x y = true) : mgE y x = true := by
  obtain ⟨hl, ha, _⟩ := mgE_iff.1 h
  obtain ⟨hm, hn, j, hj, hb, hd, _, hs⟩ := mgE_bit h
  refine mgE_nb.2 ⟨j, hj, by rw [← hm, ← hn]; exact hb, ?_⟩
  have hbits : ∀ i, i < 128 → bitAt (x.v &&& x.m) (x.w &&& x.n) i = bitAt ((y.v &&& y.m) ^^^ u0 j) ((y.w &&& y.n) ^^^ u1 j) i := fun i hi => by
    rw [bitAt_and, bitAt_xor, bitAt_and, bitAt_u hi hj, ← hm, ← hn]
    by_cases e : i = j
    · subst e
      rw [hb, hd]; cases bitAt x.v x.w i <;> simp
    · rw [decide_eq_false e]
      by_cases hmi : bitAt x.m x.n i = true
      · rw [hmi, (hs i hi e hmi).2]; simp
      · have : bitAt x.m x.n i = false := by simpa using hmi
        rw [this]; simp
  obtain ⟨e1, e2⟩ := bitAt_eq hbits
  simp only [tdE, nbE]
  rw [e1, e2, ← hm, ← hn, ← hl, ← ha]

theorem mgE_td {x y z : En} (h : mgE x y = true) (e : tdE z = tdE y) : mgE x z = true := by
  obtain ⟨j, h1, h2, h3⟩ := mgE_nb.1 h
  exact mgE_nb.2 ⟨j, h1, h2, e.trans h3⟩

theorem mgE_td_left {x y z : En} (h : mgE x y = true) (e : tdE z = tdE x) : mgE z y = true := mgE_symm (mgE_td (mgE_symm h) e)

theorem mgE_irrefl (x : En) : mgE x x = false := by
  cases h : mgE x x with
  | false => rfl
  | true =>
    obtain ⟨_, _, j, hj, _, hd, _⟩ := mgE_bit h
    revert hd
    cases bitAt x.v x.w j <;> simp

theorem mgE_ne {x y : En} (h : mgE x y = true) : x ≠ y ∧ tdE x ≠ tdE y := by
  refine ⟨fun e => ?_, fun e => ?_⟩
  · subst e; rw [mgE_irrefl] at h; cases h
  · have := mgE_td h e
    rw [mgE_irrefl] at this; cases this

theorem jnE_comm {x y : En} (h : mgE x y = true) : jnE x y = jnE y x := by
  obtain ⟨hl, ha, _⟩ := mgE_iff.1 h
  obtain ⟨hm, hn, j, hj, hb, hd, _, hs⟩ := mgE_bit h
  have e1 : x.v ^^^ y.v = y.v ^^^ x.v := BitVec.xor_comm _ _
  have e2 : x.w ^^^ y.w = y.w ^^^ x.w := BitVec.xor_comm _ _
  have hbits : ∀ i, i < 128 → bitAt (x.v &&& (x.m ^^^ (x.v ^^^ y.v) &&& x.m)) (x.w &&& (x.n ^^^ (x.w ^^^ y.w) &&& x.n)) i = bitAt (y.v &&& (x.m ^^^ (x.v ^^^ y.v) &&& x.m)) (y.w &&& (x.n ^^^ (x.w ^^^ y.w) &&& x.n)) i := fun i hi => by
    simp only [bitAt_and, bitAt_xor]
    by_cases e : i = j
    · subst e
      rw [hb, hd]; cases bitAt x.v x.w i <;> simp
    · by_cases hmi : bitAt x.m x.n i = true
      · rw [hmi, (hs i hi e hmi).2]
      · have : bitAt x.m x.n i = false := by simpa using hmi
        rw [this]; simp
  obtain ⟨b1, b2⟩ := bitAt_eq hbits
  unfold jnE
  rw [b1, b2, e1, e2, hm, hn, hl, ha]

/-- The merged word has no bits that do not count. -/
theorem jnE_td (x y : En) : tdE (jnE x y) = jnE x y := by simp [tdE, jnE, BitVec.and_assoc]

/-- What has no bits that do not count comes first among those that are told alike. -/
theorem cpE_td {x z : En} (hx : tdE x = x) (h : tdE z = x) : cpE x z ≤ 0 := by
  have hv : ∀ a b c d : BitVec 64, V (a &&& b) (c &&& d) ≤ V a c := fun a b c d => by
    unfold V
    have h1 : (a &&& b).toNat ≤ a.toNat := by rw [BitVec.toNat_and]; exact Nat.and_le_left
    have h2 : (c &&& d).toNat ≤ c.toNat := by rw [BitVec.toNat_and]; exact Nat.and_le_left
    exact Nat.add_le_add (Nat.mul_le_mul_right _ h1) h2
  subst h
  have hV := hv z.v z.m z.w z.n
  rw [cpE_le]
  refine .inr ⟨rfl, ?_⟩
  rcases Nat.lt_or_eq_of_le hV with h | h
  · exact .inl h
  · exact .inr ⟨h, .inr ⟨rfl, Int.le_refl _⟩⟩

theorem V_and (a b c d : BitVec 64) : V (a &&& b) (c &&& d) ≤ V a c := by
  unfold V
  have h1 : (a &&& b).toNat ≤ a.toNat := by rw [BitVec.toNat_and]; exact Nat.and_le_left
  have h2 : (c &&& d).toNat ≤ c.toNat := by rw [BitVec.toNat_and]; exact Nat.and_le_left
  exact Nat.add_le_add (Nat.mul_le_mul_right _ h1) h2

/-- What two become comes before both. -/
theorem jn_before {x y : En} (h : mgE x y = true) : cpE (jnE x y) x ≤ 0 ∧ jnE x y ≠ x := by
  obtain ⟨hm, hn, j, hj, hb, hd, hj2, hs⟩ := mgE_bit h
  have hne : ¬ (V (jnE x y).m (jnE x y).n = V x.m x.n) := fun e => by
    have h1 := V_bit (jnE x y).m (jnE x y).n hj
    have h2 := V_bit x.m x.n hj
    rw [e, h2, hb] at h1
    exact ((hj2 j hj).1 h1.symm).2 rfl
  have hVm : V (jnE x y).m (jnE x y).n < V x.m x.n := by
    refine Nat.lt_of_le_of_ne ?_ hne
    have hbits : ∀ i, i < 128 → bitAt (jnE x y).m (jnE x y).n i = bitAt (x.m &&& (jnE x y).m) (x.n &&& (jnE x y).n) i := fun i hi => by
      rw [bitAt_and]
      cases hh : bitAt (jnE x y).m (jnE x y).n i with
      | false => simp
      | true => rw [((hj2 i hi).1 hh).1]; rfl
    obtain ⟨e1, e2⟩ := bitAt_eq hbits
    rw [e1, e2]
    exact V_and _ _ _ _
  refine ⟨cpE_le.2 (.inr ⟨rfl, ?_⟩), fun e => hne (by rw [e])⟩
  have hV : V (jnE x y).v (jnE x y).w ≤ V x.v x.w := V_and _ _ _ _
  rcases Nat.lt_or_eq_of_le hV with h | h
  · exact .inl h
  · exact .inr ⟨h, .inl hVm⟩

/-! ### the first two -/

/-- The first one that it merges with. -/
def paE (x : En) (L : List En) : Option En := L.find? (mgE x)

theorem paE_some {x y : En} {L : List En} (h : paE x L = some y) : y ∈ L ∧ mgE x y = true := ⟨List.mem_of_find?_eq_some h, List.find?_some h⟩

theorem paE_le {x y : En} {L : List En} (hs : Sorted L) (h : paE x L = some y) {z : En} (hz : z ∈ L) (hm : mgE x z = true) : cpE y z ≤ 0 := by
  unfold paE at h
  induction L with
  | nil => cases h
  | cons a L ih =>
    obtain ⟨h1, h2⟩ := List.pairwise_cons.1 hs
    rw [List.find?_cons] at h
    cases ha : mgE x a with
    | true =>
      rw [ha] at h
      cases h
      rcases List.mem_cons.1 hz with rfl | hz
      · rw [cpE_zero.2 rfl]; exact Int.le_refl _
      · exact h1 z hz
    | false =>
      rw [ha] at h
      rcases List.mem_cons.1 hz with rfl | hz
      · rw [ha] at hm; cases hm
      · exact ih h2 h hz

theorem find_erase {p : En → Bool} : ∀ {l : List En} {y : En}, l.find? p = some y → l.Perm (y :: l.eraseP p)
  | [], _, h => by cases h
  | z :: l, y, h => by
    rw [List.find?_cons] at h
    split at h
    · rename_i hz
      cases h
      rw [List.eraseP_cons_of_pos hz]
    · rename_i hz
      rw [List.eraseP_cons_of_neg (by rw [hz]; simp)]
      exact ((find_erase h).cons z).trans (List.Perm.swap _ _ _)

theorem m1E_first : ∀ {L : List En} {a b : En}, Sorted L → a ∈ L → (∀ c ∈ L, ∀ d ∈ L, mgE c d = true → cpE a c ≤ 0) → paE a L = some b → ∃ r, m1E L = some (jnE a b, r) ∧ L.Perm (a :: b :: r)
  | [], _, _, _, ha, _, _ => by cases ha
  | h :: t, a, b, hs, ha, hmin, hpa => by
    obtain ⟨h1, h2⟩ := List.pairwise_cons.1 hs
    unfold m1E
    by_cases e : h = a
    · subst e
      unfold paE at hpa
      rw [List.find?_cons, mgE_irrefl] at hpa
      dsimp only at hpa
      rw [hpa]
      exact ⟨_, rfl, (find_erase hpa).cons _⟩
    · have hat : a ∈ t := (List.mem_cons.1 ha).resolve_left fun e2 => e e2.symm
      have hno : ∀ d ∈ t, mgE h d = false := fun d hd => by
        cases hh : mgE h d with
        | false => rfl
        | true => exact absurd (cpE_anti (h1 a hat) (hmin h List.mem_cons_self d (List.mem_cons_of_mem _ hd) hh)) e
      have hf : t.find? (mgE h) = none := List.find?_eq_none.2 fun d hd => by rw [hno d hd]; simp
      rw [hf]
      have hah : mgE a h = false := by
        cases hh : mgE a h with
        | false => rfl
        | true => rw [← hno a hat, mgE_symm hh]
      have hpt : paE a t = some b := by
        unfold paE at hpa ⊢
        rw [List.find?_cons, hah] at hpa
        exact hpa
      obtain ⟨r, e1, e2⟩ := m1E_first h2 hat (fun c hc d hd hm => hmin c (List.mem_cons_of_mem _ hc) d (List.mem_cons_of_mem _ hd) hm) hpt
      rw [e1]
      exact ⟨h :: r, rfl, (e2.cons h).trans ((List.Perm.swap _ _ _).trans ((List.Perm.swap _ _ _).cons _))⟩

/-- What is left of a row that is gone through: who merges with another one is still to come. -/
def NoP (L R : List En) : Prop := ∀ a ∈ L, ∀ b ∈ L, mgE a b = true → L.count a ≤ R.count a

/-- The entry at hand: on top of its pile, ahead of all that are still to come; of the others who merges with another one is still to come. -/
structure AtH (L : List En) (x : En) (R : List En) : Prop where
  sorted : Sorted L
  top : topE (tdE x) L = some x
  le : ∀ r ∈ R, cpE x r ≤ 0
  no : NoP (L.erase x) R

theorem NoP.start (L : List En) : NoP L L := fun _ _ _ _ _ => Nat.le_refl _

theorem count_mem {a : En} {R : List En} {n : Nat} (h : 1 ≤ n) (h2 : n ≤ R.count a) : a ∈ R := List.count_pos_iff.1 (by omega)

theorem NoP.hand {L : List En} {x : En} {R : List En} (hs : Sorted L) (hR : Sorted (x :: R)) (h : NoP L (x :: R)) (ht : topE (tdE x) L = some x) : AtH L x R := by
  have hx := (topE_some ht).1
  refine ⟨hs, ht, (List.pairwise_cons.1 hR).1, fun a ha b hb hm => ?_⟩
  have h1 := h a (List.mem_of_mem_erase ha) b (List.mem_of_mem_erase hb) hm
  by_cases e : a = x
  · subst e
    rw [List.count_erase_self]
    rw [List.count_cons_self] at h1
    omega
  · rw [List.count_erase_of_ne e]
    rwa [List.count_cons_of_ne (fun e2 => e e2.symm)] at h1

theorem NoP.skip {L : List En} {x : En} {R : List En} (hs : Sorted L) (hR : Sorted (x :: R)) (h : NoP L (x :: R)) (ht : topE (tdE x) L ≠ some x) : NoP L R := by
  intro a ha b hb hm
  have h1 := h a ha b hb hm
  by_cases e : a = x
  · subst e
    exfalso
    cases htop : topE (tdE a) L with
    | none =>
      have := topE_none.1 htop
      have hmem : a ∈ plE (tdE a) L := mem_plE.2 ⟨ha, rfl⟩
      rw [this] at hmem; cases hmem
    | some t =>
      obtain ⟨ht1, ht2⟩ := topE_some htop
      have hta : t ≠ a := fun e => ht (by rw [htop, e])
      have hle : cpE t a ≤ 0 := by
        -- the first of its kind
        have : ∀ {L : List En}, Sorted L → topE (tdE a) L = some t → a ∈ L → cpE t a ≤ 0 := by
          intro L hs h ha
          unfold topE at h
          induction L with
          | nil => cases h
          | cons z L ih =>
            obtain ⟨h1, h2⟩ := List.pairwise_cons.1 hs
            rw [List.find?_cons] at h
            split at h
            · cases h
              rcases List.mem_cons.1 ha with e | ha
              · rw [e, cpE_zero.2 rfl]; exact Int.le_refl _
              · exact h1 a ha
            · rename_i hz
              rcases List.mem_cons.1 ha with e | ha
              · rw [e] at hz; simp at hz
              · exact ih h2 h ha
        exact this hs htop ha
      have hmt : mgE t b = true := mgE_td_left hm ht2
      have h2 := h t ht1 b hb hmt
      have hmem : t ∈ a :: R := count_mem (List.count_pos_iff.2 ht1) h2
      rcases List.mem_cons.1 hmem with e | hmem
      · exact hta e
      · exact hta (cpE_anti hle ((List.pairwise_cons.1 hR).1 t hmem))
  · rwa [List.count_cons_of_ne (fun e2 => e e2.symm)] at h1

theorem AtH.done {L : List En} {x : En} {R : List En} (h : AtH L x R) (hp : paE x L = none) : NoP L R := by
  intro a ha b hb hm
  have hno : ∀ z ∈ L, mgE x z = false := fun z hz => by
    have := List.find?_eq_none.1 hp z hz
    simpa using this
  have hax : a ≠ x := fun e => by rw [e, hno b hb] at hm; cases hm
  have hbx : b ≠ x := fun e => by have := mgE_symm hm; rw [e, hno a ha] at this; cases this
  have := h.no a ((List.mem_erase_of_ne hax).2 ha) b ((List.mem_erase_of_ne hbx).2 hb) hm
  rwa [List.count_erase_of_ne hax] at this

/-- Two are merged: the first two. -/
theorem AtH.step {L : List En} {x y : En} {R : List En} (h : AtH L x R) (hp : paE x L = some y) :
    topE (tdE y) (drL (tdE x) L) = some y ∧ (∀ z ∈ drL (tdE y) (drL (tdE x) L), tdE z = tdE (jnE x y) → cpE (jnE x y) z ≤ 0) ∧
    m2E L = some (putL (jnE x y) (drL (tdE y) (drL (tdE x) L))) ∧ AtH (putL (jnE x y) (drL (tdE y) (drL (tdE x) L))) (jnE x y) R := by
  obtain ⟨hyL, hm⟩ := paE_some hp
  obtain ⟨hxL, _⟩ := topE_some h.top
  obtain ⟨hne, htd⟩ := mgE_ne hm
  have e1 := drL_erase h.top
  have hs1 : Sorted (L.erase x) := h.sorted.sublist List.erase_sublist
  -- y is on top of its pile
  have topy : topE (tdE y) L = some y := by
    cases htop : topE (tdE y) L with
    | none =>
      have := topE_none.1 htop
      have hmem : y ∈ plE (tdE y) L := mem_plE.2 ⟨hyL, rfl⟩
      rw [this] at hmem; cases hmem
    | some t =>
      obtain ⟨ht1, ht2⟩ := topE_some htop
      have hmt : mgE x t = true := mgE_td hm ht2
      -- both are the first one
      have key : ∀ {L : List En}, L.find? (mgE x) = some y → L.find? (fun z => decide (tdE z = tdE y)) = some t → mgE x y = true → t = y := by
        intro L
        induction L with
        | nil => intro h; cases h
        | cons z L ih =>
          intro h1 h2 hm
          rw [List.find?_cons] at h1 h2
          by_cases hz : tdE z = tdE y
          · rw [show decide (tdE z = tdE y) = true by simpa using hz] at h2
            rw [mgE_td hm hz] at h1
            cases h1; cases h2; rfl
          · rw [show decide (tdE z = tdE y) = false by simpa using hz] at h2
            cases hmz : mgE x z with
            | true => rw [hmz] at h1; cases h1; exact absurd rfl hz
            | false => rw [hmz] at h1; exact ih h1 h2 hm
      rw [key hp htop hm]
  have topy1 : topE (tdE y) (L.erase x) = some y := by
    have : plE (tdE y) (drL (tdE x) L) = plE (tdE y) L := plE_dr_ne (fun e => htd e.symm) L
    rw [e1] at this
    rw [← topE_last, this, topE_last]; exact topy
  have e2 := drL_erase topy1
  rw [e1, e2]
  have hsub : ∀ z ∈ (L.erase x).erase y, z ∈ L := fun z hz => List.mem_of_mem_erase (List.mem_of_mem_erase hz)
  have hle : ∀ z ∈ (L.erase x).erase y, tdE z = tdE (jnE x y) → cpE (jnE x y) z ≤ 0 := fun z _ hz => cpE_td (jnE_td x y) (by rw [hz, jnE_td])
  have hs2 : Sorted ((L.erase x).erase y) := hs1.sublist List.erase_sublist
  have hyx : y ∈ L.erase x := (List.mem_erase_of_ne fun e => hne e.symm).2 hyL
  have hpm : L.Perm (x :: y :: (L.erase x).erase y) := (List.perm_cons_erase hxL).trans ((List.perm_cons_erase hyx).cons x)
  refine ⟨topy1, hle, ?_, ?_⟩
  · -- the first two by the row
    have first : ∀ {a b : En}, (a = x ∧ b = y ∨ a = y ∧ b = x) → (∀ c ∈ L, ∀ d ∈ L, mgE c d = true → cpE a c ≤ 0) → paE a L = some b → m2E L = some (putL (jnE x y) ((L.erase x).erase y)) := by
      intro a b hab hmin hpa
      have haL : a ∈ L := by rcases hab with ⟨rfl, _⟩ | ⟨rfl, _⟩; exact hxL; exact hyL
      obtain ⟨r, h1, h2⟩ := m1E_first h.sorted haL hmin hpa
      unfold m2E
      rw [h1]
      dsimp only
      have hj : jnE a b = jnE x y := by
        rcases hab with ⟨rfl, rfl⟩ | ⟨rfl, rfl⟩
        · rfl
        · exact jnE_comm (mgE_symm hm)
      have hr : r.Perm ((L.erase x).erase y) := by
        have h3 : (a :: b :: r).Perm (x :: y :: (L.erase x).erase y) := h2.symm.trans hpm
        rcases hab with ⟨rfl, rfl⟩ | ⟨rfl, rfl⟩
        · exact (List.perm_cons _).1 ((List.perm_cons _).1 h3)
        · exact (List.perm_cons _).1 ((List.perm_cons _).1 (h3.trans (List.Perm.swap _ _ _)))
      rw [hj]
      unfold putL
      rw [srE_of_perm (hr.cons _)]
    have inR : ∀ {a b : En}, a ∈ L → b ∈ L → a ≠ x → b ≠ x → mgE a b = true → a ∈ R := fun {a b} ha hb hax hbx hab => by
      have := h.no a ((List.mem_erase_of_ne hax).2 ha) b ((List.mem_erase_of_ne hbx).2 hb) hab
      exact count_mem (List.count_pos_iff.2 ((List.mem_erase_of_ne hax).2 ha)) this
    rcases cpE_total x y with hxy | hyx'
    · refine first (.inl ⟨rfl, rfl⟩) (fun c hc d hd hcd => ?_) hp
      by_cases ec : c = x
      · rw [ec, cpE_zero.2 rfl]; exact Int.le_refl _
      · by_cases ed : d = x
        · exact cpE_trans hxy (paE_le h.sorted hp hc (by rw [ed] at hcd; exact mgE_symm hcd))
        · exact h.le c (inR hc hd ec ed hcd)
    · refine first (.inr ⟨rfl, rfl⟩) (fun c hc d hd hcd => ?_) ?_
      · by_cases ec : c = x
        · rw [ec]; exact hyx'
        · by_cases ed : d = x
          · exact paE_le h.sorted hp hc (by rw [ed] at hcd; exact mgE_symm hcd)
          · exact cpE_trans hyx' (h.le c (inR hc hd ec ed hcd))
      · cases hpy : paE y L with
        | none =>
          have := List.find?_eq_none.1 hpy x hxL
          rw [mgE_symm hm] at this
          exact absurd rfl this
        | some b =>
          obtain ⟨hb1, hb2⟩ := paE_some hpy
          by_cases eb : b = x
          · rw [eb]
          · have hyR := inR hyL hb1 (fun e => hne e.symm) eb hb2
            exact absurd (cpE_anti (h.le y hyR) hyx') hne
  · refine ⟨putL_sorted _ _, ?_, fun r hr => cpE_trans (jn_before hm).1 (h.le r hr), fun a ha b hb hab => ?_⟩
    · have hpl := plE_put (x := jnE x y) hs2 hle
      rw [← topE_last, hpl]
      simp
    · have hpe : ((putL (jnE x y) ((L.erase x).erase y)).erase (jnE x y)).Perm ((L.erase x).erase y) := by
        have := (putL_perm (jnE x y) ((L.erase x).erase y)).erase (jnE x y)
        rwa [List.erase_cons_head] at this
      rw [hpe.count_eq]
      have ha' := (hpe.mem_iff).1 ha
      have hb' := (hpe.mem_iff).1 hb
      have := h.no a (List.mem_of_mem_erase ha') b (List.mem_of_mem_erase hb') hab
      exact Nat.le_trans ((List.erase_sublist).count_le a) this

/-- In the end no two are left. -/
theorem NoP.none {L : List En} (h : NoP L []) : m2E L = none := by
  unfold m2E
  have : m1E L = Option.none := m1E_none.2 ((List.pairwise_iff_forall_sublist).2 fun {a b} hab => by
    cases hh : mgE a b with
    | false => rfl
    | true =>
      have ha : a ∈ L := hab.subset List.mem_cons_self
      have hb : b ∈ L := hab.subset (List.mem_cons_of_mem _ List.mem_cons_self)
      have h1 := h a ha b hb hh
      have h2 := List.count_pos_iff.2 ha
      rw [List.count_nil] at h1
      omega)
  rw [this]

end Go.Sx.M
end

