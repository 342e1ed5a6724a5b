/-
  Texts in one: M01 M02 M03 M04 M09 M11.
-/
import Derived.Laws.Small

section
/-
  Plain mathematics for layer 1: the bits of two words, from the left. No program.
-/
namespace Go.Sx.M

/-- Bit k of two words, from the left. -/
def bitAt (a b : BitVec 64) (k : Nat) : Bool := if k < 64 then a.getMsbD k else b.getMsbD (k - 64)

def divs (a : BitVec 64) : Nat → BitVec 64
  | 0 => a
  | j + 1 => divs a j / BitVec.ofInt 64 2

def bitDiv (a b : BitVec 64) (k : Nat) : Bool :=
  match decide (k < 64) with
  | true => divs a (63 - k) % BitVec.ofInt 64 2 == BitVec.ofInt 64 1
  | false => divs b (127 - k) % BitVec.ofInt 64 2 == BitVec.ofInt 64 1

theorem divs_toNat (a : BitVec 64) : ∀ j, (divs a j).toNat = a.toNat / 2 ^ j
  | 0 => by simp [divs]
  | j + 1 => by
    rw [divs, BitVec.toNat_udiv, divs_toNat a j, show (BitVec.ofInt 64 2).toNat = 2 from by decide, Nat.div_div_eq_div_mul, Nat.pow_succ]

theorem divs_bit (a : BitVec 64) (j : Nat) : (divs a j % BitVec.ofInt 64 2 == BitVec.ofInt 64 1) = a.getLsbD j := by
  rw [Bool.eq_iff_iff, beq_iff_eq, ← BitVec.toNat_inj, BitVec.toNat_umod, divs_toNat, show (BitVec.ofInt 64 2).toNat = 2 from by decide, show (BitVec.ofInt 64 1).toNat = 1 from by decide,
    BitVec.getLsbD, Nat.testBit_eq_decide_div_mod_eq, decide_eq_true_eq]

theorem bitDiv_eq {a b : BitVec 64} {k : Nat} (hk : k < 128) : bitDiv a b k = bitAt a b k := by
  unfold bitDiv bitAt
  by_cases h : k < 64
  · simp only [h, decide_true, if_true, divs_bit, BitVec.getMsbD, Bool.true_and]
  · simp only [h, decide_false, if_false, divs_bit, BitVec.getMsbD]
    rw [show decide (k - 64 < 64) = true from by simp; omega, Bool.true_and]
    congr 1
    omega

/-- The first n of bits, as a number. -/
def W (f : Nat → Bool) : Nat → BitVec 64
  | 0 => 0#64
  | n + 1 => if f n then W f n * 2#64 + 1#64 else W f n * 2#64

theorem mul_two (x : BitVec 64) : x * 2#64 = x <<< 1 := by
  apply BitVec.eq_of_toNat_eq
  rw [BitVec.toNat_mul, BitVec.toNat_shiftLeft, Nat.shiftLeft_eq]
  rfl

theorem shl_one_or (x : BitVec 64) : x <<< 1 + 1#64 = x <<< 1 ||| 1#64 := by
  apply BitVec.add_eq_or_of_and_eq_zero
  apply BitVec.eq_of_getLsbD_eq
  intro i hi
  cases i <;> simp [BitVec.getLsbD_one]

theorem W_get (f : Nat → Bool) : ∀ n, n ≤ 64 → ∀ j, (W f n).getLsbD j = (decide (j < n) && f (n - 1 - j))
  | 0, _, j => by simp [W]
  | n + 1, hn, j => by
    have ih := W_get f n (by omega)
    have e : W f (n + 1) = (W f n <<< 1) ||| (if f n then 1#64 else 0#64) := by
      show (if f n then W f n * 2#64 + 1#64 else W f n * 2#64) = _
      rw [mul_two]
      cases f n
      · simp
      · exact shl_one_or _
    rw [e, BitVec.getLsbD_or, BitVec.getLsbD_shiftLeft]
    rcases Nat.eq_zero_or_pos j with h0 | h0
    · subst h0
      simp only [Nat.sub_zero, Nat.add_sub_cancel]
      cases f n <;> simp
    · rw [ih (j - 1)]
      have h1 : (if f n = true then 1#64 else 0#64).getLsbD j = false := by
        split
        · rw [BitVec.getLsbD_one]; simp; omega
        · simp
      rw [h1, Bool.or_false]
      by_cases hj : j < n + 1
      · have a1 : decide (j < 64) = true := by simp; omega
        have a2 : decide (j < 1) = false := by simp; omega
        have a3 : decide (j - 1 < n) = true := by simp; omega
        have a4 : decide (j < n + 1) = true := by simp; omega
        rw [a1, a2, a3, a4]
        simp only [Bool.not_false, Bool.true_and]
        congr 1; omega
      · have a3 : decide (j - 1 < n) = false := by simp; omega
        have a4 : decide (j < n + 1) = false := by simp; omega
        rw [a3, a4]; simp

theorem msb_eq {a b : BitVec 64} (h : ∀ i, i < 64 → a.getMsbD i = b.getMsbD i) : a = b := by
  apply BitVec.eq_of_getMsbD_eq
  intro i hi
  exact h i hi

theorem W_msb (f : Nat → Bool) {i : Nat} (hi : i < 64) : (W f 64).getMsbD i = f i := by
  rw [BitVec.getMsbD, W_get f 64 (by omega)]
  have a1 : decide (i < 64) = true := by simpa using hi
  have a2 : decide (64 - 1 - i < 64) = true := by simp; omega
  rw [a1, a2]
  simp only [Bool.true_and]
  congr 1; omega

/-- A word with the bit j from the right alone. -/
def one (j : Nat) : BitVec 64 := BitVec.ofInt 64 1 <<< j

/-- A word with its bit k, from the left, so. -/
def put (a : BitVec 64) (k : Int) (c : Bool) : BitVec 64 :=
  if 0 ≤ k ∧ k < 64 then (match c with | true => a ||| one (63 - k.toNat) | false => a &&& ~~~one (63 - k.toNat)) else a

end Go.Sx.M
end

section
/-
  Plain mathematics: the sums of adjacent bits (what OnesCount64 computes) count the bits that are set. No program.
-/
namespace Go.Sx.M

def val : List Nat → Nat
  | [] => 0
  | u :: l => 256 * val l + u

def small (l : List Nat) : Prop := ∀ u ∈ l, u < 256

def s1 (u : Nat) : Nat := (u / 2 &&& 85) + (u &&& 85)
def s2 (u : Nat) : Nat := (u / 4 &&& 51) + (u &&& 51)
def s3 (u : Nat) : Nat := u / 16 + u &&& 15

theorem a1 : ∀ u : Fin 256, ∀ c : Fin 2, (u.val / 2 + 128 * c.val) &&& 85 = u.val / 2 &&& 85 := by decide +kernel
theorem a2 : ∀ u : Fin 256, ∀ c : Fin 4, (u.val / 4 + 64 * c.val) &&& 51 = u.val / 4 &&& 51 := by decide +kernel
theorem b1 : ∀ u : Fin 256, s1 u.val < 256 := by decide +kernel
theorem b2 : ∀ u : Fin 256, s2 (s1 u.val) < 69 ∧ s2 (s1 u.val) % 16 < 5 := by decide +kernel
theorem a3 : ∀ u : Fin 69, ∀ c : Fin 5, (u.val / 16 + 16 * c.val + u.val) &&& 15 = (u.val / 16 + u.val) &&& 15 := by decide +kernel

/-- How many of the first n bits are set. -/
def cnt : Nat → Nat → Nat
  | 0, _ => 0
  | n + 1, x => cnt n x + (if x.testBit n then 1 else 0)

theorem c3 : ∀ u : Fin 256, s3 (s2 (s1 u.val)) = cnt 8 u.val := by decide +kernel

theorem last (c0 c1 c2 c3 c4 c5 c6 c7 : Nat) (h0 : c0 < 9) (h1 : c1 < 9) (h2 : c2 < 9) (h3 : c3 < 9) (h4 : c4 < 9) (h5 : c5 < 9) (h6 : c6 < 9) (h7 : c7 < 9) (y y1 y2 y3 : Nat)
    (hy : y = val [c0, c1, c2, c3, c4, c5, c6, c7]) (hy1 : y1 = y + y / 256) (hy2 : y2 = y1 + y1 / 65536) (hy3 : y3 = y2 + y2 / 4294967296) :
    y3 < 18446744073709551616 ∧ y3 % 128 = c0 + c1 + c2 + c3 + c4 + c5 + c6 + c7 := by
  simp only [val] at hy
  have q1 : y / 256 = val [c1, c2, c3, c4, c5, c6, c7] := by simp only [val]; omega
  simp only [val] at q1
  have e1 : y1 = val [c0 + c1, c1 + c2, c2 + c3, c3 + c4, c4 + c5, c5 + c6, c6 + c7, c7] := by simp only [val]; omega
  clear hy1 q1 hy
  simp only [val] at e1
  have q2 : y1 / 65536 = val [c2 + c3, c3 + c4, c4 + c5, c5 + c6, c6 + c7, c7] := by simp only [val]; omega
  simp only [val] at q2
  have e2 : y2 = val [c0 + c1 + c2 + c3, c1 + c2 + c3 + c4, c2 + c3 + c4 + c5, c3 + c4 + c5 + c6, c4 + c5 + c6 + c7, c5 + c6 + c7, c6 + c7, c7] := by simp only [val]; omega
  clear hy2 q2 e1
  simp only [val] at e2
  have q3 : y2 / 4294967296 = val [c4 + c5 + c6 + c7, c5 + c6 + c7, c6 + c7, c7] := by simp only [val]; omega
  simp only [val] at q3
  have e3 : y3 = val [c0 + c1 + c2 + c3 + c4 + c5 + c6 + c7, c1 + c2 + c3 + c4 + c5 + c6 + c7, c2 + c3 + c4 + c5 + c6 + c7, c3 + c4 + c5 + c6 + c7, c4 + c5 + c6 + c7, c5 + c6 + c7, c6 + c7, c7] := by simp only [val]; omega
  clear hy3 q3 e2
  simp only [val] at e3
  constructor <;> omega

end Go.Sx.M
end

section
/-
  Plain mathematics: how many bits of two words are set, counted from the left. No program.
-/
namespace Go.Sx.M

end Go.Sx.M
end

section
/-
  Plain mathematics: the first bit that differs; two words as one number. No program.
-/
namespace Go.Sx.M

/-- The first place, from k on, of the next n, at which two rows differ, or the end. -/
def comG (f g : Nat → Bool) : Nat → Nat → Nat
  | 0, k => k
  | n + 1, k => if f k = g k then comG f g n (k + 1) else k

def com (f g : Nat → Bool) : Nat := comG f g 128 0

structure IsCom (f g : Nat → Bool) (n : Nat) : Prop where
  le : n ≤ 128
  same : ∀ i, i < n → f i = g i
  other : n < 128 → f n ≠ g n

theorem comG_spec (f g : Nat → Bool) : ∀ n k, k ≤ comG f g n k ∧ comG f g n k ≤ k + n ∧ (∀ i, k ≤ i → i < comG f g n k → f i = g i) ∧ (comG f g n k < k + n → f (comG f g n k) ≠ g (comG f g n k))
  | 0, k => ⟨Nat.le_refl _, Nat.le_refl _, fun i h1 h2 => absurd h2 (by simp only [comG]; omega), fun h => absurd h (by simp only [comG]; omega)⟩
  | n + 1, k => by
    simp only [comG]
    split
    · rename_i h
      obtain ⟨h1, h2, h3, h4⟩ := comG_spec f g n (k + 1)
      refine ⟨by omega, by omega, fun i h5 h6 => ?_, fun h5 => h4 (by omega)⟩
      rcases Nat.eq_or_lt_of_le h5 with rfl | h7
      · exact h
      · exact h3 i h7 h6
    · rename_i h
      exact ⟨Nat.le_refl _, by omega, fun i h5 h6 => by omega, fun _ => h⟩

theorem com_spec (f g : Nat → Bool) : IsCom f g (com f g) := by
  obtain ⟨_, h2, h3, h4⟩ := comG_spec f g 128 0
  exact ⟨by simpa [com] using h2, fun i hi => h3 i (Nat.zero_le _) hi, fun h => h4 (by simpa [com] using h)⟩

theorem IsCom.uniq {f g : Nat → Bool} {n m : Nat} (h : IsCom f g n) (h' : IsCom f g m) : n = m := by
  rcases Nat.lt_trichotomy n m with hlt | h0 | hlt
  · exact absurd (h'.same n hlt) (h.other (by have := h'.le; omega))
  · exact h0
  · exact absurd (h.same m hlt) (h'.other (by have := h.le; omega))

theorem IsCom.symm {f g : Nat → Bool} {n : Nat} (h : IsCom f g n) : IsCom g f n := ⟨h.le, fun i hi => (h.same i hi).symm, fun hn e => h.other hn e.symm⟩

/-- Two words as one number. -/
def V (a b : BitVec 64) : Nat := a.toNat * 2 ^ 64 + b.toNat

theorem V_lt (a b : BitVec 64) : V a b < 2 ^ 128 := by
  have := a.isLt
  have := b.isLt
  unfold V; omega

theorem V_inj {a b c d : BitVec 64} : V a b = V c d ↔ a = c ∧ b = d := by
  have h1 := b.isLt
  have h2 := d.isLt
  refine ⟨fun h => ?_, fun h => by rw [h.1, h.2]⟩
  unfold V at h
  exact ⟨BitVec.eq_of_toNat_eq (by omega), BitVec.eq_of_toNat_eq (by omega)⟩

theorem V_bit (a b : BitVec 64) {k : Nat} (hk : k < 128) : (V a b).testBit (127 - k) = bitAt a b k := by
  unfold V bitAt
  rw [Nat.mul_comm, Nat.testBit_two_pow_mul_add _ b.isLt]
  split
  · rename_i h
    rw [if_neg (by omega), BitVec.getMsbD, show decide (k - 64 < 64) = true from by simp; omega, Bool.true_and, BitVec.getLsbD, show 64 - 1 - (k - 64) = 127 - k from by omega] <;> try omega
  · rename_i h
    rw [if_pos (by omega), BitVec.getMsbD, show decide (k < 64) = true from by simp; omega, Bool.true_and, BitVec.getLsbD]
    congr 1; omega

theorem bitAt_eq {a b c d : BitVec 64} (h : ∀ k, k < 128 → bitAt a b k = bitAt c d k) : a = c ∧ b = d := by
  refine ⟨msb_eq fun i hi => ?_, msb_eq fun i hi => ?_⟩
  · have := h i (by omega)
    unfold bitAt at this
    rwa [if_pos hi, if_pos hi] at this
  · have := h (64 + i) (by omega)
    unfold bitAt at this
    rwa [if_neg (by omega), if_neg (by omega), Nat.add_sub_cancel_left] at this

theorem lt_of_bit {m n i : Nat} (hm : m.testBit i = false) (hn : n.testBit i = true) (h : ∀ j, i < j → m.testBit j = n.testBit j) : m < n := by
  have e : m / 2 ^ (i + 1) = n / 2 ^ (i + 1) := Nat.eq_of_testBit_eq fun j => by
    rw [Nat.testBit_div_two_pow, Nat.testBit_div_two_pow]; exact h _ (by omega)
  rw [Nat.testBit_eq_decide_div_mod_eq, decide_eq_false_iff_not] at hm
  rw [Nat.testBit_eq_decide_div_mod_eq, decide_eq_true_eq] at hn
  rw [Nat.pow_succ, ← Nat.div_div_eq_div_mul, ← Nat.div_div_eq_div_mul] at e
  have h2 : m / 2 ^ i < n / 2 ^ i := by omega
  refine Nat.lt_of_not_le fun hle => ?_
  have := Nat.div_le_div_right (c := 2 ^ i) hle
  omega

theorem V_less {a b c d : BitVec 64} {n : Nat} (hn : n < 128) (hs : ∀ i, i < n → bitAt a b i = bitAt c d i) (h0 : bitAt a b n = false) (h1 : bitAt c d n = true) : V a b < V c d := by
  refine lt_of_bit (i := 127 - n) (by rw [V_bit a b hn, h0]) (by rw [V_bit c d hn, h1]) fun j hj => ?_
  by_cases h : j < 128
  · have e : j = 127 - (127 - j) := by omega
    rw [e, V_bit a b (by omega), V_bit c d (by omega)]
    exact hs _ (by omega)
  · rw [Nat.testBit_lt_two_pow (Nat.lt_of_lt_of_le (V_lt a b) (Nat.pow_le_pow_right (by omega) (by omega))), Nat.testBit_lt_two_pow (Nat.lt_of_lt_of_le (V_lt c d) (Nat.pow_le_pow_right (by omega) (by omega)))]

/-- Which of two numbers is the greater one. -/
def cmpV (m n : Nat) : Int := if m = n then 0 else if m < n then -1 else 1

theorem com_eq {a b c d : BitVec 64} : com (bitAt a b) (bitAt c d) = 128 ↔ a = c ∧ b = d := by
  have hs := com_spec (bitAt a b) (bitAt c d)
  refine ⟨fun h => bitAt_eq fun k hk => hs.same k (by omega), fun ⟨h1, h2⟩ => ?_⟩
  subst h1; subst h2
  rcases Nat.lt_or_ge (com (bitAt a b) (bitAt a b)) 128 with h | h
  · exact absurd rfl (hs.other h)
  · have := hs.le; omega

theorem com_cmp (a b c d : BitVec 64) : cmpV (V a b) (V c d) = if com (bitAt a b) (bitAt c d) = 128 then 0 else if bitAt c d (com (bitAt a b) (bitAt c d)) = true then -1 else 1 := by
  have hs := com_spec (bitAt a b) (bitAt c d)
  by_cases h : com (bitAt a b) (bitAt c d) = 128
  · rw [if_pos h]
    obtain ⟨rfl, rfl⟩ := com_eq.1 h
    unfold cmpV
    rw [if_pos rfl]
  · rw [if_neg h]
    have hlt : com (bitAt a b) (bitAt c d) < 128 := by have := hs.le; omega
    have ho := hs.other hlt
    cases hb : bitAt c d (com (bitAt a b) (bitAt c d)) with
    | true =>
      have ha : bitAt a b (com (bitAt a b) (bitAt c d)) = false := by
        rw [hb] at ho; cases hx : bitAt a b (com (bitAt a b) (bitAt c d)) with
        | true => rw [hx] at ho; exact absurd rfl ho
        | false => rfl
      have := V_less hlt hs.same ha hb
      unfold cmpV
      rw [if_neg (by omega), if_pos this, if_pos rfl]
    | false =>
      have ha : bitAt a b (com (bitAt a b) (bitAt c d)) = true := by
        rw [hb] at ho; cases hx : bitAt a b (com (bitAt a b) (bitAt c d)) with
        | true => rfl
        | false => rw [hx] at ho; exact absurd rfl ho
      have := V_less hlt (fun i hi => (hs.same i hi).symm) hb ha
      unfold cmpV
      rw [if_neg (by omega), if_neg (by omega), if_neg (by simp)]

end Go.Sx.M
end

section
/-
  Plain mathematics for words: bit by bit of two words of 64 bits. No program.
-/
namespace Go.Sx.M

/-- Does the word v w, with the mask m n, match a b? -/
def wmB (v w m n a b : BitVec 64) : Bool := a &&& m == v &&& m && b &&& n == w &&& n

end Go.Sx.M
end

section
/-
  Plain mathematics: entries, rows of entries: which one is the first, which the best one. No program.
-/
namespace Go.Sx.M

/-- An entry: a word's value and mask, its length, its action. -/
structure En where
  v : BitVec 64
  w : BitVec 64
  m : BitVec 64
  n : BitVec 64
  len : Int
  act : Int
  deriving DecidableEq, Inhabited

/-- Does its word match? -/
def mtE (x : En) (a b : BitVec 64) : Bool := wmB x.v x.w x.m x.n a b

/-- Element k of a row. -/
def at' {T : Type} [Inhabited T] (l : List T) (k : Nat) : T := l.getD k default

theorem at_get {T : Type} [Inhabited T] {l : List T} {k : Nat} (h : k < l.length) : l[k]? = some (at' l k) := by
  unfold at'; rw [List.getD_eq_getElem?_getD, List.getElem?_eq_getElem h]; rfl

theorem at_mem {T : Type} [Inhabited T] {l : List T} {k : Nat} (h : k < l.length) : at' l k ∈ l := List.mem_of_getElem? (at_get h)

theorem mem_at {T : Type} [Inhabited T] {l : List T} {x : T} (h : x ∈ l) : ∃ k, k < l.length ∧ at' l k = x := by
  obtain ⟨k, hk⟩ := List.mem_iff_getElem?.1 h
  have hl := (List.getElem?_eq_some_iff.1 hk).1
  exact ⟨k, hl, by rw [at_get hl] at hk; exact Option.some_inj.1 hk⟩

/-- It is the first one that matches, or there is none. -/
def FirstAt (l : List En) (a b : BitVec 64) (r : Int) : Prop :=
  (r = -1 ∧ ∀ j, j < l.length → mtE (at' l j) a b = false) ∨ ∃ i : Nat, r = i ∧ i < l.length ∧ mtE (at' l i) a b = true ∧ ∀ j, j < i → mtE (at' l j) a b = false

theorem FirstAt.uniq {l : List En} {a b : BitVec 64} {r s : Int} (h : FirstAt l a b r) (h' : FirstAt l a b s) : r = s := by
  rcases h with ⟨rfl, h⟩ | ⟨i, rfl, hi, h1, h2⟩ <;> rcases h' with ⟨rfl, g⟩ | ⟨k, rfl, hk, g1, g2⟩
  · rfl
  · rw [h k hk] at g1; cases g1
  · rw [g i hi] at h1; cases h1
  · rcases Nat.lt_trichotomy i k with h | h | h
    · rw [g2 i h] at h1; cases h1
    · rw [h]
    · rw [h2 k h] at g1; cases g1

/-- Of those from k on it is the best one, or none matches. -/
def BestFrom (l : List En) (a b : BitVec 64) (k : Nat) (r : Int) : Prop :=
  (r = -1 ∧ ∀ j, k ≤ j → j < l.length → mtE (at' l j) a b = false) ∨
  ∃ i : Nat, r = i ∧ k ≤ i ∧ i < l.length ∧ mtE (at' l i) a b = true ∧ ∀ j, k ≤ j → j < l.length → mtE (at' l j) a b = true → (at' l j).len ≤ (at' l i).len ∧ (j < i → (at' l j).len < (at' l i).len)

theorem BestFrom.uniq {l : List En} {a b : BitVec 64} {r s : Int} (h : BestFrom l a b 0 r) (h' : BestFrom l a b 0 s) : r = s := by
  rcases h with ⟨rfl, h⟩ | ⟨i, rfl, _, hi, h1, h2⟩ <;> rcases h' with ⟨rfl, g⟩ | ⟨k, rfl, _, hk, g1, g2⟩
  · rfl
  · rw [h k (by omega) hk] at g1; cases g1
  · rw [g i (by omega) hi] at h1; cases h1
  · have a1 := h2 k (by omega) hk g1
    have a2 := g2 i (by omega) hi h1
    rcases Nat.lt_trichotomy i k with h | h | h
    · have := a2.2 h; omega
    · rw [h]
    · have := a1.2 h; omega

end Go.Sx.M
end

