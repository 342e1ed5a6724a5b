/-
  Texts in one: M01 M02 M03 M04 M09 M10 M11 M12 M13 M14 M15 M16 M17 M18 M22 M23 M24 M31.
-/
import Derived.Laws.Small

section
/-
  Plain mathematics for layer 1: the bits of two words, from the left. No program.
-/
namespace Go.Sx.M

/-- Bit k of two words, from the left. -/
def bitAt (a b : BitVec 64) (k : Nat) : Bool := if k < 64 then a.getMsbD k else b.getMsbD (k - 64)

def divs (a : BitVec 64) : Nat → BitVec 64
  | 0 => a
  | j + 1 => divs a j / BitVec.ofInt 64 2

def bitDiv (a b : BitVec 64) (k : Nat) : Bool :=
  match decide (k < 64) with
  | true => divs a (63 - k) % BitVec.ofInt 64 2 == BitVec.ofInt 64 1
  | false => divs b (127 - k) % BitVec.ofInt 64 2 == BitVec.ofInt 64 1

theorem divs_toNat (a : BitVec 64) : ∀ j, (divs a j).toNat = a.toNat / 2 ^ j
  | 0 => by simp [divs]
  | j + 1 => by
    rw [divs, BitVec.toNat_udiv, divs_toNat a j, show (BitVec.ofInt 64 2).toNat = 2 from by decide, Nat.div_div_eq_div_mul, Nat.pow_succ]

theorem divs_bit (a : BitVec 64) (j : Nat) : (divs a j % BitVec.ofInt 64 2 == BitVec.ofInt 64 1) = a.getLsbD j := by
  rw [Bool.eq_iff_iff, beq_iff_eq, ← BitVec.toNat_inj, BitVec.toNat_umod, divs_toNat, show (BitVec.ofInt 64 2).toNat = 2 from by decide, show (BitVec.ofInt 64 1).toNat = 1 from by decide,
    BitVec.getLsbD, Nat.testBit_eq_decide_div_mod_eq, decide_eq_true_eq]

theorem bitDiv_eq {a b : BitVec 64} {k : Nat} (hk : k < 128) : bitDiv a b k = bitAt a b k := by
  unfold bitDiv bitAt
  by_cases h : k < 64
  · simp only [h, decide_true, if_true, divs_bit, BitVec.getMsbD, Bool.true_and]
  · simp only [h, decide_false, if_false, divs_bit, BitVec.getMsbD]
    rw [show decide (k - 64 < 64) = true from by simp; omega, Bool.true_and]
    congr 1
    omega

/-- The first n of bits, as a number. -/
def W (f : Nat → Bool) : Nat → BitVec 64
  | 0 => 0#64
  | n + 1 => if f n then W f n * 2#64 + 1#64 else W f n * 2#64

theorem mul_two (x : BitVec 64) : x * 2#64 = x <<< 1 := by
  apply BitVec.eq_of_toNat_eq
  rw [BitVec.toNat_mul, BitVec.toNat_shiftLeft, Nat.shiftLeft_eq]
  rfl

theorem shl_one_or (x : BitVec 64) : x <<< 1 + 1#64 = x <<< 1 ||| 1#64 := by
  apply BitVec.add_eq_or_of_and_eq_zero
  apply BitVec.eq_of_getLsbD_eq
  intro i hi
  cases i <;> simp [BitVec.getLsbD_one]

theorem W_get (f : Nat → Bool) : ∀ n, n ≤ 64 → ∀ j, (W f n).getLsbD j = (decide (j < n) && f (n - 1 - j))
  | 0, _, j => by simp [W]
  | n + 1, hn, j => by
    have ih := W_get f n (by omega)
    have e : W f (n + 1) = (W f n <<< 1) ||| (if f n then 1#64 else 0#64) := by
      show (if f n then W f n * 2#64 + 1#64 else W f n * 2#64) = _
      rw [mul_two]
      cases f n
      · simp
      · exact shl_one_or _
    rw [e, BitVec.getLsbD_or, BitVec.getLsbD_shiftLeft]
    rcases Nat.eq_zero_or_pos j with h0 | h0
    · subst h0
      simp only [Nat.sub_zero, Nat.add_sub_cancel]
      cases f n <;> simp
    · rw [ih (j - 1)]
      have h1 : (if f n = true then 1#64 else 0#64).getLsbD j = false := by
        split
        · rw [BitVec.getLsbD_one]; simp; omega
        · simp
      rw [h1, Bool.or_false]
      by_cases hj : j < n + 1
      · have a1 : decide (j < 64) = true := by simp; omega
        have a2 : decide (j < 1) = false := by simp; omega
        have a3 : decide (j - 1 < n) = true := by simp; omega
        have a4 : decide (j < n + 1) = true := by simp; omega
        rw [a1, a2, a3, a4]
        simp only [Bool.not_false, Bool.true_and]
        congr 1; omega
      · have a3 : decide (j - 1 < n) = false := by simp; omega
        have a4 : decide (j < n + 1) = false := by simp; omega
        rw [a3, a4]; simp

theorem msb_eq {a b : BitVec 64} (h : ∀ i, i < 64 → a.getMsbD i = b.getMsbD i) : a = b := by
  apply BitVec.eq_of_getMsbD_eq
  intro i hi
  exact h i hi

theorem W_msb (f : Nat → Bool) {i : Nat} (hi : i < 64) : (W f 64).getMsbD i = f i := by
  rw [BitVec.getMsbD, W_get f 64 (by omega)]
  have a1 : decide (i < 64) = true := by simpa using hi
  have a2 : decide (64 - 1 - i < 64) = true := by simp; omega
  rw [a1, a2]
  simp only [Bool.true_and]
  congr 1; omega

theorem W_eq {f : Nat → Bool} {a : BitVec 64} (h : ∀ i, i < 64 → f i = a.getMsbD i) : W f 64 = a :=
  msb_eq fun i hi => by rw [W_msb f hi, h i hi]

/-- A word with the bit j from the right alone. -/
def one (j : Nat) : BitVec 64 := BitVec.ofInt 64 1 <<< j

/-- A word with its bit k, from the left, so. -/
def put (a : BitVec 64) (k : Int) (c : Bool) : BitVec 64 :=
  if 0 ≤ k ∧ k < 64 then (match c with | true => a ||| one (63 - k.toNat) | false => a &&& ~~~one (63 - k.toNat)) else a

end Go.Sx.M
end

section
/-
  Plain mathematics: the sums of adjacent bits (what OnesCount64 computes) count the bits that are set. No program.
-/
namespace Go.Sx.M

def val : List Nat → Nat
  | [] => 0
  | u :: l => 256 * val l + u

def small (l : List Nat) : Prop := ∀ u ∈ l, u < 256

def s1 (u : Nat) : Nat := (u / 2 &&& 85) + (u &&& 85)
def s2 (u : Nat) : Nat := (u / 4 &&& 51) + (u &&& 51)
def s3 (u : Nat) : Nat := u / 16 + u &&& 15

theorem a1 : ∀ u : Fin 256, ∀ c : Fin 2, (u.val / 2 + 128 * c.val) &&& 85 = u.val / 2 &&& 85 := by decide +kernel
theorem a2 : ∀ u : Fin 256, ∀ c : Fin 4, (u.val / 4 + 64 * c.val) &&& 51 = u.val / 4 &&& 51 := by decide +kernel
theorem b1 : ∀ u : Fin 256, s1 u.val < 256 := by decide +kernel
theorem b2 : ∀ u : Fin 256, s2 (s1 u.val) < 69 ∧ s2 (s1 u.val) % 16 < 5 := by decide +kernel
theorem a3 : ∀ u : Fin 69, ∀ c : Fin 5, (u.val / 16 + 16 * c.val + u.val) &&& 15 = (u.val / 16 + u.val) &&& 15 := by decide +kernel

/-- How many of the first n bits are set. -/
def cnt : Nat → Nat → Nat
  | 0, _ => 0
  | n + 1, x => cnt n x + (if x.testBit n then 1 else 0)

theorem c3 : ∀ u : Fin 256, s3 (s2 (s1 u.val)) = cnt 8 u.val := by decide +kernel

theorem last (c0 c1 c2 c3 c4 c5 c6 c7 : Nat) (h0 : c0 < 9) (h1 : c1 < 9) (h2 : c2 < 9) (h3 : c3 < 9) (h4 : c4 < 9) (h5 : c5 < 9) (h6 : c6 < 9) (h7 : c7 < 9) (y y1 y2 y3 : Nat)
    (hy : y = val [c0, c1, c2, c3, c4, c5, c6, c7]) (hy1 : y1 = y + y / 256) (hy2 : y2 = y1 + y1 / 65536) (hy3 : y3 = y2 + y2 / 4294967296) :
    y3 < 18446744073709551616 ∧ y3 % 128 = c0 + c1 + c2 + c3 + c4 + c5 + c6 + c7 := by
  simp only [val] at hy
  have q1 : y / 256 = val [c1, c2, c3, c4, c5, c6, c7] := by simp only [val]; omega
  simp only [val] at q1
  have e1 : y1 = val [c0 + c1, c1 + c2, c2 + c3, c3 + c4, c4 + c5, c5 + c6, c6 + c7, c7] := by simp only [val]; omega
  clear hy1 q1 hy
  simp only [val] at e1
  have q2 : y1 / 65536 = val [c2 + c3, c3 + c4, c4 + c5, c5 + c6, c6 + c7, c7] := by simp only [val]; omega
  simp only [val] at q2
  have e2 : y2 = val [c0 + c1 + c2 + c3, c1 + c2 + c3 + c4, c2 + c3 + c4 + c5, c3 + c4 + c5 + c6, c4 + c5 + c6 + c7, c5 + c6 + c7, c6 + c7, c7] := by simp only [val]; omega
  clear hy2 q2 e1
  simp only [val] at e2
  have q3 : y2 / 4294967296 = val [c4 + c5 + c6 + c7, c5 + c6 + c7, c6 + c7, c7] := by simp only [val]; omega
  simp only [val] at q3
  have e3 : y3 = val [c0 + c1 + c2 + c3 + c4 + c5 + c6 + c7, c1 + c2 + c3 + c4 + c5 + c6 + c7, c2 + c3 + c4 + c5 + c6 + c7, c3 + c4 + c5 + c6 + c7, c4 + c5 + c6 + c7, c5 + c6 + c7, c6 + c7, c7] := by simp only [val]; omega
  clear hy3 q3 e2
  simp only [val] at e3
  constructor <;> omega

end Go.Sx.M
end

section
/-
  Plain mathematics: how many bits of two words are set, counted from the left. No program.
-/
namespace Go.Sx.M

/-- How many of the first n are true. -/
def cf (f : Nat → Bool) : Nat → Nat
  | 0 => 0
  | n + 1 => cf f n + (if f n then 1 else 0)

end Go.Sx.M
end

section
/-
  Plain mathematics: the first bit that differs; two words as one number. No program.
-/
namespace Go.Sx.M

structure IsCom (f g : Nat → Bool) (n : Nat) : Prop where
  le : n ≤ 128
  same : ∀ i, i < n → f i = g i
  other : n < 128 → f n ≠ g n

theorem IsCom.uniq {f g : Nat → Bool} {n m : Nat} (h : IsCom f g n) (h' : IsCom f g m) : n = m := by
  rcases Nat.lt_trichotomy n m with hlt | h0 | hlt
  · exact absurd (h'.same n hlt) (h.other (by have := h'.le; omega))
  · exact h0
  · exact absurd (h.same m hlt) (h'.other (by have := h.le; omega))

theorem IsCom.symm {f g : Nat → Bool} {n : Nat} (h : IsCom f g n) : IsCom g f n := ⟨h.le, fun i hi => (h.same i hi).symm, fun hn e => h.other hn e.symm⟩

/-- Two words as one number. -/
def V (a b : BitVec 64) : Nat := a.toNat * 2 ^ 64 + b.toNat

theorem bitAt_eq {a b c d : BitVec 64} (h : ∀ k, k < 128 → bitAt a b k = bitAt c d k) : a = c ∧ b = d := by
  refine ⟨msb_eq fun i hi => ?_, msb_eq fun i hi => ?_⟩
  · have := h i (by omega)
    unfold bitAt at this
    rwa [if_pos hi, if_pos hi] at this
  · have := h (64 + i) (by omega)
    unfold bitAt at this
    rwa [if_neg (by omega), if_neg (by omega), Nat.add_sub_cancel_left] at this

/-- Which of two numbers is the greater one. -/
def cmpV (m n : Nat) : Int := if m = n then 0 else if m < n then -1 else 1

end Go.Sx.M
end

section
/-
  Plain mathematics for words: bit by bit of two words of 64 bits. No program.
-/
namespace Go.Sx.M

theorem bitAt_and (a b c d : BitVec 64) (k : Nat) : bitAt (a &&& c) (b &&& d) k = (bitAt a b k && bitAt c d k) := by
  unfold bitAt; split <;> rw [BitVec.getMsbD_and]

theorem bitAt_xor (a b c d : BitVec 64) (k : Nat) : bitAt (a ^^^ c) (b ^^^ d) k = (bitAt a b k ^^ bitAt c d k) := by
  unfold bitAt; split <;> rw [BitVec.getMsbD_xor]

theorem bitAt_zero (k : Nat) : bitAt 0#64 0#64 k = false := by
  unfold bitAt; split <;> simp

theorem pair_beq {a b c d : BitVec 64} : (a == c && b == d) = true ↔ ∀ k, k < 128 → bitAt a b k = bitAt c d k := by
  rw [Bool.and_eq_true, beq_iff_eq, beq_iff_eq]
  exact ⟨fun ⟨h1, h2⟩ k _ => by rw [h1, h2], fun h => bitAt_eq h⟩

/-- Does the word v w, with the mask m n, match a b? -/
def wmB (v w m n a b : BitVec 64) : Bool := a &&& m == v &&& m && b &&& n == w &&& n

/-- Is there one that both match? -/
def wtB (v w m n c d p q : BitVec 64) : Bool := (v ^^^ c) &&& (m &&& p) == 0#64 && (w ^^^ d) &&& (n &&& q) == 0#64

theorem wtB_iff {v w m n c d p q : BitVec 64} : wtB v w m n c d p q = true ↔ ∀ k, k < 128 → bitAt m n k = true → bitAt p q k = true → bitAt v w k = bitAt c d k := by
  unfold wtB
  rw [pair_beq]
  refine ⟨fun h k hk h1 h2 => ?_, fun h k hk => ?_⟩
  · have := h k hk
    rw [bitAt_and, bitAt_and, bitAt_xor, bitAt_zero, h1, h2] at this
    revert this
    cases bitAt v w k <;> cases bitAt c d k <;> simp
  · rw [bitAt_and, bitAt_and, bitAt_xor, bitAt_zero]
    cases h1 : bitAt m n k with
    | false => simp
    | true => cases h2 : bitAt p q k with
      | false => simp
      | true => rw [h k hk h1 h2]; simp

end Go.Sx.M
end

section
/-
  Plain mathematics: an address that a word matches, with the bits of a number where it is free. No program.
-/
namespace Go.Sx.M

/-- How many bits behind bit i are free. -/
def fr (m n : BitVec 64) (i : Nat) : Nat := cf (fun j => !bitAt m n (127 - j)) (127 - i)

end Go.Sx.M
end

section
/-
  Plain mathematics: entries, rows of entries: which one is the first, which the best one. No program.
-/
namespace Go.Sx.M

/-- An entry: a word's value and mask, its length, its action. -/
structure En where
  v : BitVec 64
  w : BitVec 64
  m : BitVec 64
  n : BitVec 64
  len : Int
  act : Int
  deriving DecidableEq, Inhabited

/-- Does its word match? -/
def mtE (x : En) (a b : BitVec 64) : Bool := wmB x.v x.w x.m x.n a b

/-- Is there an address that both match? -/
def meE (x y : En) : Bool := wtB x.v x.w x.m x.n y.v y.w y.m y.n

/-- Must the one stand above the other one? -/
def abE (x y : En) : Bool := decide (x.len > y.len) && meE x y

/-- Element k of a row. -/
def at' {T : Type} [Inhabited T] (l : List T) (k : Nat) : T := l.getD k default

theorem at_get {T : Type} [Inhabited T] {l : List T} {k : Nat} (h : k < l.length) : l[k]? = some (at' l k) := by
  unfold at'; rw [List.getD_eq_getElem?_getD, List.getElem?_eq_getElem h]; rfl

theorem at_mem {T : Type} [Inhabited T] {l : List T} {k : Nat} (h : k < l.length) : at' l k ∈ l := List.mem_of_getElem? (at_get h)

theorem mem_at {T : Type} [Inhabited T] {l : List T} {x : T} (h : x ∈ l) : ∃ k, k < l.length ∧ at' l k = x := by
  obtain ⟨k, hk⟩ := List.mem_iff_getElem?.1 h
  have hl := (List.getElem?_eq_some_iff.1 hk).1
  exact ⟨k, hl, by rw [at_get hl] at hk; exact Option.some_inj.1 hk⟩

/-- It is the first one that matches, or there is none. -/
def FirstAt (l : List En) (a b : BitVec 64) (r : Int) : Prop :=
  (r = -1 ∧ ∀ j, j < l.length → mtE (at' l j) a b = false) ∨ ∃ i : Nat, r = i ∧ i < l.length ∧ mtE (at' l i) a b = true ∧ ∀ j, j < i → mtE (at' l j) a b = false

theorem FirstAt.uniq {l : List En} {a b : BitVec 64} {r s : Int} (h : FirstAt l a b r) (h' : FirstAt l a b s) : r = s := by
  rcases h with ⟨rfl, h⟩ | ⟨i, rfl, hi, h1, h2⟩ <;> rcases h' with ⟨rfl, g⟩ | ⟨k, rfl, hk, g1, g2⟩
  · rfl
  · rw [h k hk] at g1; cases g1
  · rw [g i hi] at h1; cases h1
  · rcases Nat.lt_trichotomy i k with h | h | h
    · rw [g2 i h] at h1; cases h1
    · rw [h]
    · rw [h2 k h] at g1; cases g1

/-- The best one of the last n; -1: none matches. -/
def bsG (l : List En) (a b : BitVec 64) : Nat → Int
  | 0 => -1
  | n + 1 => if mtE (at' l (l.length - 1 - n)) a b && (decide (bsG l a b n < 0) || decide ((at' l (l.length - 1 - n)).len ≥ (at' l (bsG l a b n).toNat).len)) then ((l.length - 1 - n : Nat) : Int) else bsG l a b n

/-- The best one; -1: none matches. -/
def bsI (l : List En) (a b : BitVec 64) : Int := bsG l a b l.length

/-- Of those from k on it is the best one, or none matches. -/
def BestFrom (l : List En) (a b : BitVec 64) (k : Nat) (r : Int) : Prop :=
  (r = -1 ∧ ∀ j, k ≤ j → j < l.length → mtE (at' l j) a b = false) ∨
  ∃ i : Nat, r = i ∧ k ≤ i ∧ i < l.length ∧ mtE (at' l i) a b = true ∧ ∀ j, k ≤ j → j < l.length → mtE (at' l j) a b = true → (at' l j).len ≤ (at' l i).len ∧ (j < i → (at' l j).len < (at' l i).len)

theorem BestFrom.uniq {l : List En} {a b : BitVec 64} {r s : Int} (h : BestFrom l a b 0 r) (h' : BestFrom l a b 0 s) : r = s := by
  rcases h with ⟨rfl, h⟩ | ⟨i, rfl, _, hi, h1, h2⟩ <;> rcases h' with ⟨rfl, g⟩ | ⟨k, rfl, _, hk, g1, g2⟩
  · rfl
  · rw [h k (by omega) hk] at g1; cases g1
  · rw [g i (by omega) hi] at h1; cases h1
  · have a1 := h2 k (by omega) hk g1
    have a2 := g2 i (by omega) hi h1
    rcases Nat.lt_trichotomy i k with h | h | h
    · have := a2.2 h; omega
    · rw [h]
    · have := a1.2 h; omega

/-- What is to be done: the best one's action; 0: none matches. -/
def tlI (l : List En) (a b : BitVec 64) : Int := if bsI l a b < 0 then 0 else (at' l (bsI l a b).toNat).act

/-- No one stands behind one that it must stand above. -/
def orE (l : List En) : Bool := decide (∀ i, i < l.length → ∀ k, k < l.length → i < k → abE (at' l k) (at' l i) = false)

theorem orE_iff {l : List En} : orE l = true ↔ ∀ i, i < l.length → ∀ k, k < l.length → i < k → abE (at' l k) (at' l i) = false := by
  unfold orE; rw [decide_eq_true_eq]

end Go.Sx.M
end

section
/-
  Plain mathematics: the order of entries, sorted rows. No program.
-/
namespace Go.Sx.M

/-- May an entry be? -/
def rtE (x : En) : Bool := (x.v &&& x.m == x.v && x.w &&& x.n == x.w) && (decide (x.len ≥ 0) && (decide (x.len ≤ 128) && (decide (x.act ≥ 1) && decide (x.act ≤ 255))))

/-- Are word and length the same? -/
def alE (x y : En) : Bool := (x.v == y.v && x.w == y.w && (x.m == y.m && x.n == y.n)) && x.len == y.len

/-- No less than 0. -/
def mx0 (n : Int) : Int := if 0 > n then 0 else n

def cmpZ (m n : Int) : Int := if m < n then -1 else if n < m then 1 else 0
def orZ (m n : Int) : Int := if m = 0 then n else m

/-- Which of two entries comes first: -1 the one, 1 the other one, 0: they are the same. -/
def cpE (x y : En) : Int := orZ (cmpZ y.len x.len) (orZ (cmpV (V x.v x.w) (V y.v y.w)) (orZ (cmpV (V x.m x.n) (V y.m y.n)) (cmpZ x.act y.act)))

end Go.Sx.M
end

section
/-
  Plain mathematics: rows of entries, looked at in their order: the best one; the least length; one behind another one. No program.
-/
namespace Go.Sx.M

/-- The best one of the first n, looked at in their order; -1: none matches. -/
def fbG (l : List En) (a b : BitVec 64) : Nat → Int
  | 0 => -1
  | n + 1 => if (decide (fbG l a b n < 0) || decide ((at' l n).len > (at' l (fbG l a b n).toNat).len)) && mtE (at' l n) a b then (n : Int) else fbG l a b n

theorem fbG_spec (l : List En) (a b : BitVec 64) : ∀ n, (fbG l a b n = -1 ∧ ∀ j, j < n → mtE (at' l j) a b = false) ∨
    ∃ i : Nat, fbG l a b n = i ∧ i < n ∧ mtE (at' l i) a b = true ∧ ∀ j, j < n → mtE (at' l j) a b = true → (at' l j).len ≤ (at' l i).len ∧ (j < i → (at' l j).len < (at' l i).len)
  | 0 => .inl ⟨rfl, fun j h => by omega⟩
  | n + 1 => by
    have ih := fbG_spec l a b n
    unfold fbG
    generalize fbG l a b n = r at ih
    cases hm : mtE (at' l n) a b with
    | false =>
      rw [Bool.and_false, if_neg (by simp)]
      rcases ih with ⟨h1, h2⟩ | ⟨i, h1, h2, h3, h4⟩
      · exact .inl ⟨h1, fun j hj => by
          rcases Nat.lt_or_eq_of_le (Nat.le_of_lt_succ hj) with h | rfl
          · exact h2 j h
          · exact hm⟩
      · exact .inr ⟨i, h1, by omega, h3, fun j hj hj2 => by
          rcases Nat.lt_or_eq_of_le (Nat.le_of_lt_succ hj) with h | rfl
          · exact h4 j h hj2
          · rw [hm] at hj2; cases hj2⟩
    | true =>
      rw [Bool.and_true]
      rcases ih with ⟨rfl, h2⟩ | ⟨i, rfl, h2, h3, h4⟩
      · rw [if_pos (by simp)]
        exact .inr ⟨n, rfl, by omega, hm, fun j hj hj2 => by
          rcases Nat.lt_or_eq_of_le (Nat.le_of_lt_succ hj) with h | rfl
          · rw [h2 j h] at hj2; cases hj2
          · exact ⟨Int.le_refl _, fun h => by omega⟩⟩
      · have e3 : ((i : Int)).toNat = i := by omega
        rw [e3, show decide ((i : Int) < 0) = false from by simp, Bool.false_or]
        by_cases hl : (at' l n).len > (at' l i).len
        · rw [if_pos (by simpa using hl)]
          exact .inr ⟨n, rfl, by omega, hm, fun j hj hj2 => by
            rcases Nat.lt_or_eq_of_le (Nat.le_of_lt_succ hj) with h | rfl
            · have := (h4 j h hj2).1
              exact ⟨by omega, fun _ => by omega⟩
            · exact ⟨Int.le_refl _, fun h => by omega⟩⟩
        · rw [if_neg (by simpa using hl)]
          exact .inr ⟨i, rfl, by omega, h3, fun j hj hj2 => by
            rcases Nat.lt_or_eq_of_le (Nat.le_of_lt_succ hj) with h | rfl
            · exact h4 j h hj2
            · exact ⟨by omega, fun h => by omega⟩⟩

/-- The least length of the first n. -/
def mnG (l : List En) : Nat → Int
  | 0 => 9223372036854775807
  | n + 1 => if (at' l n).len < mnG l n then (at' l n).len else mnG l n

theorem mnG_le (l : List En) : ∀ n j, j < n → mnG l n ≤ (at' l j).len
  | 0, j, h => by omega
  | n + 1, j, h => by
    unfold mnG
    rcases Nat.lt_or_eq_of_le (Nat.le_of_lt_succ h) with h' | rfl
    · have := mnG_le l n j h'
      split <;> omega
    · split <;> omega

/-- None of the first n stands behind one that it must stand above. -/
def OrTo (l : List En) (n : Nat) : Prop := ∀ k, k < n → ∀ i, i < k → abE (at' l k) (at' l i) = false

theorem OrTo.all {l : List En} : orE l = true ↔ OrTo l l.length := by
  rw [orE_iff]
  exact ⟨fun h k hk i hi => h i (by omega) k hk hi, fun h i _ k hk hik => h k hk i hik⟩

theorem OrTo.short {l : List En} {n : Nat} (h : OrTo l n) (hs : ¬ (at' l n).len > mnG l n) : OrTo l (n + 1) := fun k hk i hi => by
  rcases Nat.lt_or_eq_of_le (Nat.le_of_lt_succ hk) with h' | rfl
  · exact h k h' i hi
  · have := mnG_le l k i hi
    unfold abE
    rw [show decide ((at' l k).len > (at' l i).len) = false from by simp; omega, Bool.false_and]

theorem OrTo.next {l : List En} {n : Nat} (h : OrTo l n) (hs : ∀ i, i < n → abE (at' l n) (at' l i) = false) : OrTo l (n + 1) := fun k hk i hi => by
  rcases Nat.lt_or_eq_of_le (Nat.le_of_lt_succ hk) with h' | rfl
  · exact h k h' i hi
  · exact hs i hi

end Go.Sx.M
end

section
/-
  Plain mathematics: what is to be done does not hang on the order of a row. No program.
-/
namespace Go.Sx.M

/-- No two that match are as long, with other actions. -/
def Clear (l : List En) (a b : BitVec 64) : Prop := ∀ x, x ∈ l → ∀ y, y ∈ l → mtE x a b = true → mtE y a b = true → x.len = y.len → x.act = y.act

/-- None of the first n is as long as one ahead of it, with another action, where both match. -/
def ClearTo (l : List En) (a b : BitVec 64) (n : Nat) : Prop := ∀ i, i < n → ∀ k, k < i → (at' l i).len = (at' l k).len → mtE (at' l i) a b = true → mtE (at' l k) a b = true → (at' l i).act = (at' l k).act

theorem ClearTo.all {l : List En} {a b : BitVec 64} (h : ClearTo l a b l.length) : Clear l a b := by
  intro x hx y hy hxm hym hl
  obtain ⟨i, hi, rfl⟩ := mem_at hx
  obtain ⟨k, hk, rfl⟩ := mem_at hy
  rcases Nat.lt_trichotomy i k with hlt | rfl | hgt
  · exact (h k hk i hlt hl.symm hym hxm).symm
  · rfl
  · exact h i hi k hgt hl hxm hym

end Go.Sx.M
end

section
/-
  Slots, writes: plain mathematics.
-/
namespace Go.Sx.M

/-- A slot: is it valid; its entry. -/
structure Sl where
  ok : Bool
  e : En
  deriving DecidableEq, Inhabited

/-- A write: of which slot; what it becomes. -/
structure Wr where
  p : Int
  s : Sl
  deriving DecidableEq, Inhabited

/-- An empty one. -/
def zS : Sl := ⟨false, ⟨0#64, 0#64, 0#64, 0#64, 0, 0⟩⟩

/-- Does it match an address? -/
def mtS (a b : BitVec 64) (x : Sl) : Bool := x.ok && mtE x.e a b

/-- May a write be, of n slots? -/
def inS (p n : Int) : Bool := decide (0 ≤ p) && decide (p < n)
def rtS (x : Sl) : Bool := decide (x = zS) || (x.ok && rtE x.e)
def mayS (x : Wr) (n : Int) : Bool := inS x.p n && rtS x.s

theorem inS_iff {p n : Int} : inS p n = true ↔ 0 ≤ p ∧ p < n := by
  unfold inS
  rw [Bool.and_eq_true, decide_eq_true_eq, decide_eq_true_eq]

theorem inS_not {p n : Int} (h : ¬ (0 ≤ p ∧ p < n)) : inS p n = false := by
  cases e : inS p n with
  | false => rfl
  | true => exact absurd (inS_iff.1 e) h

theorem mayS_not {x : Wr} {n : Int} (h : ¬ (0 ≤ x.p ∧ x.p < n)) : mayS x n = false := by
  unfold mayS
  rw [inS_not h, Bool.false_and]

theorem mayS_in {x : Wr} {n : Int} (h : 0 ≤ x.p ∧ x.p < n) : mayS x n = rtS x.s := by
  unfold mayS
  rw [inS_iff.2 h, Bool.true_and]

theorem mayS_is {x : Wr} {n : Int} (h : mayS x n = true) : 0 ≤ x.p ∧ x.p < n := by
  unfold mayS at h
  rw [Bool.and_eq_true] at h
  exact inS_iff.1 h.1

theorem eq_zS {o : Bool} {v w m n : BitVec 64} {k j : Int} : (o == false && (v == BitVec.ofInt 64 0 && w == BitVec.ofInt 64 0 && (m == BitVec.ofInt 64 0 && n == BitVec.ofInt 64 0) && (k == 0 && j == 0))) = decide ((⟨o, ⟨v, w, m, n, k, j⟩⟩ : Sl) = zS) := by
  have e : BitVec.ofInt 64 0 = 0#64 := rfl
  rw [Bool.eq_iff_iff, decide_eq_true_eq, e]
  unfold zS
  simp only [Bool.and_eq_true, beq_iff_eq, Sl.mk.injEq, En.mk.injEq]
  constructor
  · rintro ⟨a, ⟨⟨b, c⟩, d, e⟩, f, g⟩
    exact ⟨a, b, c, d, e, f, g⟩
  · rintro ⟨a, b, c, d, e, f, g⟩
    exact ⟨a, ⟨⟨b, c⟩, d, e⟩, f, g⟩

/-- Two slots, cell by cell. -/
theorem eq_Sl {x y : Sl} : (x.ok == y.ok && (x.e.v == y.e.v && x.e.w == y.e.w && (x.e.m == y.e.m && x.e.n == y.e.n) && (x.e.len == y.e.len && x.e.act == y.e.act))) = decide (x = y) := by
  obtain ⟨o, v, w, m, n, k, j⟩ := x
  obtain ⟨o', v', w', m', n', k', j'⟩ := y
  rw [Bool.eq_iff_iff, decide_eq_true_eq]
  simp only [Bool.and_eq_true, beq_iff_eq, Sl.mk.injEq, En.mk.injEq]
  constructor
  · rintro ⟨a, ⟨⟨b, c⟩, d, e⟩, f, g⟩
    exact ⟨a, b, c, d, e, f, g⟩
  · rintro ⟨a, b, c, d, e, f, g⟩
    exact ⟨a, ⟨⟨b, c⟩, d, e⟩, f, g⟩

/-- Slots behind a write, behind writes. -/
def apS (l : List Sl) (x : Wr) : List Sl := if mayS x l.length then l.set x.p.toNat x.s else l
def apL (l : List Sl) (w : List Wr) : List Sl := w.foldl apS l

theorem apS_length (l : List Sl) (x : Wr) : (apS l x).length = l.length := by unfold apS; split <;> simp

theorem apL_length : ∀ (w : List Wr) (l : List Sl), (apL l w).length = l.length
  | [], _ => rfl
  | x :: w, l => by
    have : apL l (x :: w) = apL (apS l x) w := rfl
    rw [this, apL_length w, apS_length]

theorem apL_snoc (l : List Sl) (w : List Wr) (x : Wr) : apL l (w ++ [x]) = apS (apL l w) x := by
  unfold apL
  rw [List.foldl_append]; rfl

theorem apL_one (l : List Sl) (x : Wr) : apL l [x] = apS l x := rfl

/-- The entries of the valid ones. -/
def ensS (l : List Sl) : List En := (l.filter Sl.ok).map Sl.e

theorem ensS_length (l : List Sl) : (ensS l).length ≤ l.length := by
  unfold ensS
  rw [List.length_map]
  exact List.length_filter_le _ _

theorem ensS_snoc (l : List Sl) (x : Sl) : ensS (l ++ [x]) = if x.ok then ensS l ++ [x.e] else ensS l := by
  unfold ensS
  rw [List.filter_append, List.map_append, List.filter_cons, List.filter_nil]
  split
  · rfl
  · rw [List.map_nil, List.append_nil]

/-- The first slot that matches, or -1. -/
def fnS (l : List Sl) (a b : BitVec 64) : Int := match l.findIdx? (mtS a b) with | some k => k | none => -1

def FoundS (l : List Sl) (a b : BitVec 64) (r : Int) : Prop :=
  (r = -1 ∧ ∀ j, j < l.length → mtS a b (at' l j) = false) ∨ ∃ k : Nat, r = k ∧ k < l.length ∧ mtS a b (at' l k) = true ∧ ∀ j, j < k → mtS a b (at' l j) = false

theorem at_eq {T : Type} [Inhabited T] {l : List T} {k : Nat} (h : k < l.length) : at' l k = l[k] := by
  have := at_get h
  rw [List.getElem?_eq_getElem h] at this
  exact (Option.some_inj.1 this).symm

theorem fnS_spec (l : List Sl) (a b : BitVec 64) : FoundS l a b (fnS l a b) := by
  unfold fnS
  cases h : l.findIdx? (mtS a b) with
  | none =>
    rw [List.findIdx?_eq_none_iff] at h
    exact .inl ⟨rfl, fun j hj => h _ (at_mem hj)⟩
  | some k =>
    rw [List.findIdx?_eq_some_iff_getElem] at h
    obtain ⟨hk, h1, h2⟩ := h
    refine .inr ⟨k, rfl, hk, by rw [at_eq hk]; exact h1, fun j hj => ?_⟩
    rw [at_eq (Nat.lt_trans hj hk)]
    have := h2 j hj
    simpa using this

theorem FoundS.uniq {l : List Sl} {a b : BitVec 64} {r s : Int} (h : FoundS l a b r) (h' : FoundS l a b s) : r = s := by
  rcases h with ⟨rfl, h⟩ | ⟨k, rfl, hk, h1, h2⟩ <;> rcases h' with ⟨rfl, h'⟩ | ⟨k', rfl, hk', h1', h2'⟩
  · rfl
  · rw [h k' hk'] at h1'; cases h1'
  · rw [h' k hk] at h1; cases h1
  · rcases Nat.lt_trichotomy k k' with hlt | rfl | hlt
    · rw [h2' k hlt] at h1; cases h1
    · rfl
    · rw [h2 k' hlt] at h1'; cases h1'

/-- What it tells. -/
def tlS (l : List Sl) (a b : BitVec 64) : Int := if fnS l a b < 0 then 0 else (at' l (fnS l a b).toNat).e.act

/-- How many are free. -/
def frS (l : List Sl) : Int := (l.length : Int) - (ensS l).length

theorem frS_snoc (l : List Sl) (x : Sl) : frS (l ++ [x]) = if x.ok then frS l else frS l + 1 := by
  unfold frS
  rw [ensS_snoc, List.length_append, List.length_singleton]
  split
  · rw [List.length_append, List.length_singleton]; omega
  · omega

/-- A write changes one slot. -/
theorem at_set {T : Type} [Inhabited T] (l : List T) (k : Nat) (x : T) (j : Nat) : at' (l.set k x) j = if k = j ∧ j < l.length then x else at' l j := by
  unfold at'
  rw [List.getD_eq_getElem?_getD, List.getD_eq_getElem?_getD]
  by_cases h : k = j
  · subst h
    by_cases hk : k < l.length
    · rw [List.getElem?_set_self hk, if_pos ⟨rfl, hk⟩]; rfl
    · rw [List.getElem?_eq_none (by simpa using hk), List.getElem?_eq_none (by simpa using hk), if_neg fun h => hk h.2]
  · rw [List.getElem?_set_ne h, if_neg fun g => h g.1]

theorem ext_at {l m : List Sl} (h : l.length = m.length) (hj : ∀ j, j < l.length → at' l j = at' m j) : l = m := by
  apply List.ext_getElem h
  intro j h1 h2
  rw [← at_eq h1, ← at_eq h2]
  exact hj j h1

end Go.Sx.M
end

section
/-
  Plain mathematics: entries that differ in one bit are merged. No program.
-/
namespace Go.Sx.M

/- The first two, by a search through all pairs. -/

end Go.Sx.M
end

section
/-
  Plain mathematics: the steps from one row of entries to another one. No program.
-/
namespace Go.Sx.M

theorem alE_iff {x y : En} : alE x y = true ↔ x.v = y.v ∧ x.w = y.w ∧ x.m = y.m ∧ x.n = y.n ∧ x.len = y.len := by
  unfold alE
  simp only [Bool.and_eq_true, beq_iff_eq]
  constructor
  · rintro ⟨⟨⟨h1, h2⟩, h3, h4⟩, h5⟩; exact ⟨h1, h2, h3, h4, h5⟩
  · rintro ⟨h1, h2, h3, h4, h5⟩; exact ⟨⟨⟨h1, h2⟩, h3, h4⟩, h5⟩

theorem alE_refl (x : En) : alE x x = true := alE_iff.2 ⟨rfl, rfl, rfl, rfl, rfl⟩
theorem alE_symm {x y : En} (h : alE x y = true) : alE y x = true := by
  obtain ⟨h1, h2, h3, h4, h5⟩ := alE_iff.1 h
  exact alE_iff.2 ⟨h1.symm, h2.symm, h3.symm, h4.symm, h5.symm⟩
theorem alE_comm (x y : En) : alE x y = alE y x := by
  rw [Bool.eq_iff_iff]; exact ⟨alE_symm, alE_symm⟩
theorem alE_trans {x y z : En} (h : alE x y = true) (h' : alE y z = true) : alE x z = true := by
  obtain ⟨h1, h2, h3, h4, h5⟩ := alE_iff.1 h
  obtain ⟨g1, g2, g3, g4, g5⟩ := alE_iff.1 h'
  exact alE_iff.2 ⟨h1.trans g1, h2.trans g2, h3.trans g3, h4.trans g4, h5.trans g5⟩
theorem alE_act {x y : En} (h : alE x y = true) (ha : x.act = y.act) : x = y := by
  obtain ⟨h1, h2, h3, h4, h5⟩ := alE_iff.1 h
  cases x; cases y; simp_all
theorem alE_not {x y z : En} (h : alE x y = true) (h' : alE x z = false) : alE y z = false := by
  cases e : alE y z with
  | false => rfl
  | true => rw [alE_trans h e] at h'; cases h'
theorem alE_len {x y : En} (h : alE x y = true) : x.len = y.len := (alE_iff.1 h).2.2.2.2
theorem alE_match {x y : En} (h : alE x y = true) (a b : BitVec 64) : mtE x a b = mtE y a b := by
  obtain ⟨h1, h2, h3, h4, _⟩ := alE_iff.1 h
  unfold mtE
  rw [h1, h2, h3, h4]
theorem alE_meet {x y : En} (h : alE x y = true) : meE x y = true := by
  obtain ⟨h1, h2, h3, h4, _⟩ := alE_iff.1 h
  unfold meE
  rw [wtB_iff, h1, h2, h3, h4]
  exact fun _ _ _ _ => rfl

/-- No two are alike. -/
def UqE : List En → Prop := List.Pairwise fun x y => alE x y = false

theorem UqE.one {l : List En} (h : UqE l) {x y : En} (hx : x ∈ l) (hy : y ∈ l) (ha : alE x y = true) : x = y := by
  induction l with
  | nil => cases hx
  | cons z l ih =>
    obtain ⟨h1, h2⟩ := List.pairwise_cons.1 h
    rcases List.mem_cons.1 hx with e1 | hx' <;> rcases List.mem_cons.1 hy with e2 | hy'
    · rw [e1, e2]
    · rw [e1, h1 y hy'] at ha; cases ha
    · rw [e2, alE_comm, h1 x hx'] at ha; cases ha
    · exact ih h2 hx' hy'

theorem UqE.nodup {l : List En} (h : UqE l) : l.Nodup := h.imp fun {x y} hh e => by subst e; rw [alE_refl] at hh; cases hh

/-- Of the same entries, each once: the one is the other in another order. -/
theorem UqE.ext {l m : List En} (h : UqE l) (hm : UqE m) (he : ∀ x, x ∈ l ↔ x ∈ m) : l.Perm m := (List.perm_ext_iff_of_nodup h.nodup hm.nodup).2 fun x => he x

/-- A step: its kind (0: one more; 1: one in the place of another one; 2: one goes), its entry. -/
structure Sp where
  k : Int
  e : En
  deriving DecidableEq, Inhabited

/-- A row behind a step. -/
def doE (l : List En) (s : Sp) : List En :=
  if s.k = 0 then l ++ [s.e] else if s.k = 1 then l.map (fun x => if alE x s.e then s.e else x) else if s.k = 2 then l.filter (fun x => !alE x s.e) else l

end Go.Sx.M
end

section
/-
  Plain mathematics: how many steps there are of each kind. No program.
-/
namespace Go.Sx.M

end Go.Sx.M
end

section
/-
  Slots in the order of lengths: plain mathematics.
-/
namespace Go.Sx.M

/-- Two slots, the lower one first: do they break the order of lengths? -/
def brS (x y : Sl) : Bool := y.ok && x.ok && decide (x.e.len < y.e.len)
def KpS (l : List Sl) : Prop := ∀ i, i < l.length → ∀ k, k < i → brS (at' l k) (at' l i) = false
instance (l : List Sl) : Decidable (KpS l) := by unfold KpS; infer_instance
def kpS (l : List Sl) : Bool := decide (KpS l)

theorem kpS_iff {l : List Sl} : kpS l = true ↔ KpS l := decide_eq_true_iff

/-- Is it longer, shorter than n? -/
def loS (n : Int) (x : Sl) : Bool := x.ok && decide (n < x.e.len)
def shS (n : Int) (x : Sl) : Bool := x.ok && decide (x.e.len < n)

/-- The gap of a length: behind the last longer one; the first shorter one. -/
def gpF (l : List Sl) (n : Int) : Nat → Nat
  | 0 => 0
  | i + 1 => if loS n (at' l i) then i + 1 else gpF l n i
def gpT (l : List Sl) (n : Int) : Nat → Nat
  | 0 => l.length
  | d + 1 => if shS n (at' l (l.length - 1 - d)) then l.length - 1 - d else gpT l n d
def gfS (l : List Sl) (n : Int) : Nat := gpF l n l.length
def gtS (l : List Sl) (n : Int) : Nat := gpT l n l.length

theorem gpF_spec (l : List Sl) (n : Int) : ∀ i, gpF l n i ≤ i ∧ (∀ j, gpF l n i ≤ j → j < i → loS n (at' l j) = false) ∧ (gpF l n i = 0 ∨ loS n (at' l (gpF l n i - 1)) = true)
  | 0 => ⟨Nat.le_refl _, fun j h1 h2 => absurd h2 (Nat.not_lt_zero _), .inl rfl⟩
  | i + 1 => by
    unfold gpF
    cases h : loS n (at' l i) with
    | true => exact ⟨Nat.le_refl _, fun j h1 h2 => absurd h2 (Nat.not_lt.2 h1), .inr h⟩
    | false =>
      rw [if_neg (by simp)]
      obtain ⟨h1, h2, h3⟩ := gpF_spec l n i
      refine ⟨by omega, fun j hj1 hj2 => ?_, h3⟩
      rcases Nat.lt_or_ge j i with hj | hj
      · exact h2 j hj1 hj
      · obtain rfl : j = i := by omega
        exact h

theorem gpT_spec (l : List Sl) (n : Int) : ∀ d, d ≤ l.length → l.length - d ≤ gpT l n d ∧ gpT l n d ≤ l.length ∧ (∀ j, l.length - d ≤ j → j < gpT l n d → shS n (at' l j) = false) ∧ (gpT l n d = l.length ∨ shS n (at' l (gpT l n d)) = true)
  | 0, _ => ⟨Nat.le_refl _, Nat.le_refl _, fun j h1 h2 => absurd h2 (Nat.not_lt.2 h1), .inl rfl⟩
  | d + 1, hd => by
    unfold gpT
    cases h : shS n (at' l (l.length - 1 - d)) with
    | true => exact ⟨by rw [if_pos rfl]; omega, by rw [if_pos rfl]; omega, fun j h1 h2 => by rw [if_pos rfl] at h2; omega, .inr (by rw [if_pos rfl]; exact h)⟩
    | false =>
      rw [if_neg (by simp)]
      obtain ⟨h1, h2, h3, h4⟩ := gpT_spec l n d (by omega)
      refine ⟨by omega, h2, fun j hj1 hj2 => ?_, h4⟩
      rcases Nat.lt_or_ge j (l.length - d) with hj | hj
      · obtain rfl : j = l.length - 1 - d := by omega
        exact h
      · exact h3 j hj hj2

theorem gf_spec (l : List Sl) (n : Int) : gfS l n ≤ l.length ∧ (∀ j, gfS l n ≤ j → j < l.length → loS n (at' l j) = false) ∧ (gfS l n = 0 ∨ loS n (at' l (gfS l n - 1)) = true) := gpF_spec l n l.length
theorem gt_spec (l : List Sl) (n : Int) : gtS l n ≤ l.length ∧ (∀ j, j < gtS l n → shS n (at' l j) = false) ∧ (gtS l n = l.length ∨ shS n (at' l (gtS l n)) = true) := by
  obtain ⟨_, h2, h3, h4⟩ := gpT_spec l n l.length (Nat.le_refl _)
  exact ⟨h2, fun j hj => h3 j (by omega) hj, h4⟩

/-- No gap ends ahead of its beginning. -/
theorem gap_le {l : List Sl} (hk : KpS l) (n : Int) : gfS l n ≤ gtS l n := by
  obtain ⟨h1, _, h3⟩ := gf_spec l n
  obtain ⟨g1, _, g3⟩ := gt_spec l n
  refine Nat.le_of_not_lt fun hlt => ?_
  have h3 := h3.resolve_left (by omega)
  have g3 := g3.resolve_left (by omega)
  unfold loS at h3
  unfold shS at g3
  rw [Bool.and_eq_true, decide_eq_true_eq] at h3 g3
  rcases Nat.lt_or_ge (gtS l n) (gfS l n - 1) with h | h
  · have := hk (gfS l n - 1) (by omega) _ h
    unfold brS at this
    rw [h3.1, g3.1, Bool.and_self, Bool.true_and, decide_eq_false_iff_not] at this
    omega
  · have : gtS l n = gfS l n - 1 := by omega
    rw [this] at g3
    omega

/-- How many lengths there are. -/
def knS (l : List Sl) (i : Nat) : Bool := (l.take i).any fun y => y.ok && decide (y.e.len = (at' l i).e.len)
def lnS (l : List Sl) : Nat → Nat
  | 0 => 0
  | i + 1 => if (at' l i).ok && !knS l i then lnS l i + 1 else lnS l i

theorem ensS_take {l : List Sl} {i : Nat} (hi : i < l.length) : (ensS (l.take (i + 1))).length = (ensS (l.take i)).length + (if (at' l i).ok then 1 else 0) := by
  have e : l.take (i + 1) = l.take i ++ [at' l i] := by rw [List.take_add_one, at_get hi]; rfl
  rw [e, ensS_snoc]
  split
  · rw [List.length_append]; rfl
  · rfl

theorem lnS_le (l : List Sl) : ∀ i, i ≤ l.length → lnS l i ≤ (ensS (l.take i)).length
  | 0, _ => Nat.zero_le _
  | i + 1, h => by
    have ih := lnS_le l i (by omega)
    rw [ensS_take (by omega)]
    unfold lnS
    cases (at' l i).ok <;> cases knS l i <;> simp <;> omega

/-- From an empty slot below the gap: the first one as long as the one ahead of slot p; the writes. -/
def blN (l : List Sl) (p : Nat) : Nat → Nat
  | 0 => p - 1
  | d + 1 => if (at' l (p - 1 - d)).e.len = (at' l (p - 1)).e.len then p - 1 - d else blN l p d
def blW (l : List Sl) (t : Nat) (x : En) : Nat → Nat → List Wr
  | 0, p => [⟨p, ⟨true, x⟩⟩]
  | f + 1, p => if t < p then ⟨p, at' l (blN l p (p - t))⟩ :: blW l t x f (blN l p (p - t)) else [⟨p, ⟨true, x⟩⟩]
def belS (l : List Sl) (t : Nat) (x : En) (p : Nat) : List Wr := blW l t x p p

theorem blN_lt (l : List Sl) {p : Nat} (hp : 0 < p) : ∀ d, blN l p d < p
  | 0 => by unfold blN; omega
  | d + 1 => by
    unfold blN
    split
    · omega
    · exact blN_lt l hp d

theorem blW_fuel (l : List Sl) (t : Nat) (x : En) : ∀ f g p, p ≤ t + f → p ≤ t + g → blW l t x f p = blW l t x g p
  | 0, 0, _, _, _ => rfl
  | 0, g + 1, p, h, _ => by rw [blW, blW, if_neg (by omega)]
  | f + 1, 0, p, _, h => by rw [blW, blW, if_neg (by omega)]
  | f + 1, g + 1, p, h1, h2 => by
    rw [blW, blW]
    split
    · rename_i hp
      have := blN_lt l (show 0 < p from by omega) (p - t)
      rw [blW_fuel l t x f g _ (by omega) (by omega)]
    · rfl

theorem belS_step {l : List Sl} {t : Nat} {x : En} {p : Nat} (h : t < p) : belS l t x p = ⟨p, at' l (blN l p (p - t))⟩ :: belS l t x (blN l p (p - t)) := by
  have hlt := blN_lt l (show 0 < p from by omega) (p - t)
  unfold belS
  obtain ⟨q, rfl⟩ : ∃ q, p = q + 1 := ⟨p - 1, by omega⟩
  rw [blW, if_pos h]
  congr 1
  exact blW_fuel l t x _ _ _ (by omega) (by omega)

theorem belS_end {l : List Sl} {t : Nat} {x : En} {p : Nat} (h : ¬ t < p) : belS l t x p = [⟨p, ⟨true, x⟩⟩] := by
  unfold belS
  cases p with
  | zero => rfl
  | succ p => rw [blW, if_neg h]

/-- From an empty slot above the gap. -/
def abN (l : List Sl) (p : Nat) : Nat → Nat
  | 0 => p + 1
  | d + 1 => if (at' l (p + 1 + d)).e.len = (at' l (p + 1)).e.len then p + 1 + d else abN l p d
def abW (l : List Sl) (t : Nat) (x : En) : Nat → Nat → List Wr
  | 0, p => [⟨p, ⟨true, x⟩⟩]
  | f + 1, p => if p < t then ⟨p, at' l (abN l p (t - p))⟩ :: abW l t x f (abN l p (t - p)) else [⟨p, ⟨true, x⟩⟩]
/-- The gap begins behind slot t. -/
def aboS (l : List Sl) (t : Nat) (x : En) (p : Nat) : List Wr := abW l t x (t - p) p

theorem abN_gt (l : List Sl) (p : Nat) : ∀ d, p < abN l p d
  | 0 => by unfold abN; omega
  | d + 1 => by
    unfold abN
    split
    · omega
    · exact abN_gt l p d

theorem abN_le (l : List Sl) (p : Nat) : ∀ d, abN l p d ≤ p + d ∨ d = 0
  | 0 => .inr rfl
  | d + 1 => by
    left
    unfold abN
    split
    · omega
    · rcases abN_le l p d with h | h
      · omega
      · subst h; unfold abN; omega

theorem abW_fuel (l : List Sl) (t : Nat) (x : En) : ∀ f g p, t ≤ p + f → t ≤ p + g → abW l t x f p = abW l t x g p
  | 0, 0, _, _, _ => rfl
  | 0, g + 1, p, h, _ => by rw [abW, abW, if_neg (by omega)]
  | f + 1, 0, p, _, h => by rw [abW, abW, if_neg (by omega)]
  | f + 1, g + 1, p, h1, h2 => by
    rw [abW, abW]
    split
    · have := abN_gt l p (t - p)
      rw [abW_fuel l t x f g _ (by omega) (by omega)]
    · rfl

theorem aboS_step {l : List Sl} {t : Nat} {x : En} {p : Nat} (h : p < t) : aboS l t x p = ⟨p, at' l (abN l p (t - p))⟩ :: aboS l t x (abN l p (t - p)) := by
  have hlt := abN_gt l p (t - p)
  unfold aboS
  obtain ⟨q, hq⟩ : ∃ q, t - p = q + 1 := ⟨t - p - 1, by omega⟩
  rw [hq, abW, if_pos h]
  rw [hq] at hlt
  congr 1
  · rw [hq]
  · rw [hq]
    exact abW_fuel l t x _ _ _ (by omega) (by omega)

theorem aboS_end {l : List Sl} {t : Nat} {x : En} {p : Nat} (h : ¬ p < t) : aboS l t x p = [⟨p, ⟨true, x⟩⟩] := by
  unfold aboS
  rw [show t - p = 0 from by omega]; rfl

/-- Writes that end in one. -/
def LastW (x : En) (w : List Wr) : Prop := ∃ w' p, w = w' ++ [⟨p, ⟨true, x⟩⟩]

theorem aboS_last (l : List Sl) (t : Nat) (x : En) : ∀ d p, t - p ≤ d → LastW x (aboS l t x p)
  | 0, p, h => by rw [aboS_end (by omega)]; exact ⟨[], p, rfl⟩
  | d + 1, p, h => by
    by_cases hp : p < t
    · rw [aboS_step hp]
      have := abN_gt l p (t - p)
      obtain ⟨w', q, e⟩ := aboS_last l t x d (abN l p (t - p)) (by omega)
      rw [e]
      exact ⟨_ :: w', q, rfl⟩
    · rw [aboS_end hp]; exact ⟨[], p, rfl⟩

theorem belS_len (l : List Sl) (t : Nat) (x : En) : ∀ p, (belS l t x p).length ≤ p + 1 := fun p => by
  induction p using Nat.strongRecOn with
  | _ p ih =>
    by_cases h : t < p
    · have h1 := blN_lt l (show 0 < p from by omega) (p - t)
      have := ih _ h1
      rw [belS_step h, List.length_cons]
      omega
    · rw [belS_end h]; simp

theorem aboS_len (l : List Sl) (t : Nat) (x : En) : ∀ d p, t - p ≤ d → (aboS l t x p).length ≤ d + 1
  | 0, p, h => by rw [aboS_end (by omega)]; simp
  | d + 1, p, h => by
    by_cases hp : p < t
    · have := abN_gt l p (t - p)
      have := aboS_len l t x d (abN l p (t - p)) (by omega)
      rw [aboS_step hp, List.length_cons]
      omega
    · rw [aboS_end hp]; simp

/-- The first slot of n from k on that is not valid; the last one ahead of i; -1: there is none. -/
def geS (l : List Sl) : Nat → Nat → Int
  | 0, _ => -1
  | n + 1, k => if (at' l k).ok then geS l n (k + 1) else (k : Int)
def upS (l : List Sl) : Nat → Int
  | 0 => -1
  | i + 1 => if (at' l i).ok then upS l i else (i : Int)

theorem geS_spec (l : List Sl) : ∀ n k, (geS l n k = -1 ∧ ∀ j, k ≤ j → j < k + n → (at' l j).ok = true) ∨ ∃ i : Nat, geS l n k = i ∧ k ≤ i ∧ i < k + n ∧ (at' l i).ok = false ∧ ∀ j, k ≤ j → j < i → (at' l j).ok = true
  | 0, k => .inl ⟨rfl, fun j h1 h2 => by omega⟩
  | n + 1, k => by
    unfold geS
    cases hp : (at' l k).ok with
    | false => exact .inr ⟨k, by simp, Nat.le_refl _, by omega, hp, fun j h1 h2 => by omega⟩
    | true =>
      rw [if_pos rfl]
      rcases geS_spec l n (k + 1) with ⟨h1, h2⟩ | ⟨i, h1, h2, h3, h4, h5⟩
      · refine .inl ⟨h1, fun j hj1 hj2 => ?_⟩
        rcases Nat.eq_or_lt_of_le hj1 with rfl | h
        · exact hp
        · exact h2 j h (by omega)
      · refine .inr ⟨i, h1, by omega, by omega, h4, fun j hj1 hj2 => ?_⟩
        rcases Nat.eq_or_lt_of_le hj1 with rfl | h
        · exact hp
        · exact h5 j h hj2

theorem upS_spec (l : List Sl) : ∀ i, (upS l i = -1 ∧ ∀ j, j < i → (at' l j).ok = true) ∨ ∃ k : Nat, upS l i = k ∧ k < i ∧ (at' l k).ok = false ∧ ∀ j, k < j → j < i → (at' l j).ok = true
  | 0 => .inl ⟨rfl, fun j h => absurd h (Nat.not_lt_zero _)⟩
  | i + 1 => by
    unfold upS
    cases hp : (at' l i).ok with
    | false => exact .inr ⟨i, by simp, Nat.lt_succ_self _, hp, fun j h1 h2 => by omega⟩
    | true =>
      rw [if_pos rfl]
      rcases upS_spec l i with ⟨h1, h2⟩ | ⟨k, h1, h2, h3, h4⟩
      · refine .inl ⟨h1, fun j hj => ?_⟩
        rcases Nat.lt_or_ge j i with h | h
        · exact h2 j h
        · obtain rfl : j = i := by omega
          exact hp
      · refine .inr ⟨k, h1, by omega, h3, fun j hj1 hj2 => ?_⟩
        rcases Nat.lt_or_ge j i with h | h
        · exact h4 j hj1 h
        · obtain rfl : j = i := by omega
          exact hp

/-- One slot more is looked at. -/
theorem geS_snoc (l : List Sl) : ∀ n k, geS l (n + 1) k = if 0 ≤ geS l n k then geS l n k else if (at' l (k + n)).ok then -1 else ((k + n : Nat) : Int)
  | 0, k => by
    show (if (at' l k).ok then (-1 : Int) else (k : Int)) = if (0 : Int) ≤ -1 then (-1 : Int) else if (at' l k).ok then (-1 : Int) else ((k : Nat) : Int)
    rw [if_neg (show ¬ (0 : Int) ≤ -1 by omega)]
  | n + 1, k => by
    rw [geS, geS_snoc l n (k + 1)]
    conv => rhs; rw [geS]
    cases (at' l k).ok with
    | false => simp
    | true =>
      simp only [if_true]
      rw [show k + 1 + n = k + (n + 1) from by omega]

/-- What Insert has found behind i slots: the first empty one below the gap, the last one above it. -/
def dnN (l : List Sl) (n : Int) (i : Nat) : Int := geS l (i - gtS l n) (gtS l n)
def upN (l : List Sl) (n : Int) (i : Nat) : Int := upS l (min i (gfS l n))

theorem dn_next (l : List Sl) (n : Int) (i : Nat) : dnN l n (i + 1) = if i < gtS l n then dnN l n i else if 0 ≤ dnN l n i then dnN l n i else if (at' l i).ok then -1 else (i : Int) := by
  unfold dnN
  split
  · rename_i h
    rw [show i + 1 - gtS l n = 0 from by omega, show i - gtS l n = 0 from by omega]
  · rename_i h
    rw [show i + 1 - gtS l n = i - gtS l n + 1 from by omega, geS_snoc, show gtS l n + (i - gtS l n) = i from by omega]

theorem up_next (l : List Sl) (n : Int) (i : Nat) : upN l n (i + 1) = if i < gfS l n then (if (at' l i).ok then upN l n i else (i : Int)) else upN l n i := by
  unfold upN
  split
  · rename_i h
    rw [Nat.min_eq_left (by omega), Nat.min_eq_left (by omega)]; rfl
  · rename_i h
    rw [Nat.min_eq_right (by omega), Nat.min_eq_right (by omega)]

theorem dn_none {l : List Sl} {n : Int} {i : Nat} (h : ¬ 0 ≤ dnN l n i) : dnN l n i = -1 := by
  unfold dnN at h ⊢
  rcases geS_spec l (i - gtS l n) (gtS l n) with ⟨e, _⟩ | ⟨j, e, _⟩
  · exact e
  · omega

/-- An empty slot of the gap; the first one below it; the last one above it. -/
def inG (l : List Sl) (n : Int) : Int := geS l (gtS l n - gfS l n) (gfS l n)
def dnG (l : List Sl) (n : Int) : Int := geS l (l.length - gtS l n) (gtS l n)
def upG (l : List Sl) (n : Int) : Int := upS l (gfS l n)
def bel (l : List Sl) (x : En) : List Wr := belS l (gtS l x.len) x (dnG l x.len).toNat
def abo (l : List Sl) (x : En) : List Wr := aboS l (gfS l x.len - 1) x (upG l x.len).toNat

/-- What there is of writes where an entry may be, and the order is kept; else why not. -/
def inO (l : List Sl) (x : En) : List Wr :=
  if inG l x.len < 0 then
    if dnG l x.len < 0 then (if upG l x.len < 0 then [] else abo l x)
    else if 0 ≤ upG l x.len ∧ (abo l x).length < (bel l x).length then abo l x else bel l x
  else [⟨inG l x.len, ⟨true, x⟩⟩]
def inW (l : List Sl) (x : En) : List Wr := if rtE x && kpS l then inO l x else []
def inE (l : List Sl) (x : En) : Int := if rtE x then (if kpS l then (if inG l x.len < 0 ∧ dnG l x.len < 0 ∧ upG l x.len < 0 then 3 else 0) else 7) else 1

theorem inO_full {l : List Sl} {x : En} : inG l x.len < 0 ∧ dnG l x.len < 0 ∧ upG l x.len < 0 → inO l x = [] := fun ⟨h1, h2, h3⟩ => by
  unfold inO
  rw [if_pos h1, if_pos h2, if_pos h3]

theorem ensS_all {l : List Sl} (h : ∀ j, j < l.length → (at' l j).ok = true) : (ensS l).length = l.length := by
  unfold ensS
  rw [List.length_map]
  congr 1
  refine List.filter_eq_self.2 fun x hx => ?_
  obtain ⟨j, hj, rfl⟩ := mem_at hx
  exact h j hj

theorem all_of_ensS {l : List Sl} (h : (ensS l).length = l.length) : ∀ j, j < l.length → (at' l j).ok = true := fun j hj => by
  unfold ensS at h
  rw [List.length_map] at h
  have := List.filter_eq_self.1 (List.Sublist.eq_of_length List.filter_sublist h) (at' l j) (at_mem hj)
  exact this

/-- There is no way just if all are valid. -/
theorem full_iff (l : List Sl) (n : Int) (hk : KpS l) : (inG l n < 0 ∧ dnG l n < 0 ∧ upG l n < 0) ↔ (ensS l).length = l.length := by
  obtain ⟨f1, _, _⟩ := gf_spec l n
  obtain ⟨t1, _, _⟩ := gt_spec l n
  have hle := gap_le hk n
  constructor
  · rintro ⟨h1, h2, h3⟩
    refine ensS_all fun j hj => ?_
    rcases geS_spec l (gtS l n - gfS l n) (gfS l n) with ⟨_, a⟩ | ⟨i, e, _⟩
    · rcases geS_spec l (l.length - gtS l n) (gtS l n) with ⟨_, b⟩ | ⟨i, e, _⟩
      · rcases upS_spec l (gfS l n) with ⟨_, c⟩ | ⟨i, e, _⟩
        · rcases Nat.lt_or_ge j (gfS l n) with h | h
          · exact c j h
          · rcases Nat.lt_or_ge j (gtS l n) with h' | h'
            · exact a j h (by omega)
            · exact b j h' (by omega)
        · unfold upG at h3; omega
      · unfold dnG at h2; omega
    · unfold inG at h1; omega
  · intro h
    have ha := all_of_ensS h
    refine ⟨?_, ?_, ?_⟩
    · rcases geS_spec l (gtS l n - gfS l n) (gfS l n) with ⟨e, _⟩ | ⟨i, e, h1, h2, h3, _⟩
      · unfold inG; omega
      · rw [ha i (by omega)] at h3; cases h3
    · rcases geS_spec l (l.length - gtS l n) (gtS l n) with ⟨e, _⟩ | ⟨i, e, h1, h2, h3, _⟩
      · unfold dnG; omega
      · rw [ha i (by omega)] at h3; cases h3
    · rcases upS_spec l (gfS l n) with ⟨e, _⟩ | ⟨i, e, h1, h3, _⟩
      · unfold upG; omega
      · rw [ha i (by omega)] at h3; cases h3

theorem lo_none {n : Int} {x : Sl} (h : x.ok = false) : loS n x = false := by unfold loS; rw [h]; rfl
theorem sh_none {n : Int} {x : Sl} (h : x.ok = false) : shS n x = false := by unfold shS; rw [h]; rfl

end Go.Sx.M
end

section
/-
  Slots in the order of chains: plain mathematics.
-/
namespace Go.Sx.M

/-- Must an entry stand above a slot's, a slot's above it? -/
def afS (x : En) (s : Sl) : Bool := s.ok && abE x s.e
def bfS (x : En) (s : Sl) : Bool := s.ok && abE s.e x

theorem af_none {x : En} {s : Sl} (h : s.ok = false) : afS x s = false := by unfold afS; rw [h]; rfl
theorem bf_none {x : En} {s : Sl} (h : s.ok = false) : bfS x s = false := by unfold bfS; rw [h]; rfl

/-- Behind the last one of i slots that is such; the first one behind all but d. -/
def gpP (l : List Sl) (p : Sl → Bool) : Nat → Nat
  | 0 => 0
  | i + 1 => if p (at' l i) then i + 1 else gpP l p i
def gpQ (l : List Sl) (p : Sl → Bool) : Nat → Nat
  | 0 => l.length
  | d + 1 => if p (at' l (l.length - 1 - d)) then l.length - 1 - d else gpQ l p d
def gfC (l : List Sl) (x : En) : Nat := gpP l (bfS x) l.length
def gtC (l : List Sl) (x : En) : Nat := gpQ l (afS x) l.length

theorem gpP_spec (l : List Sl) (p : Sl → Bool) : ∀ i, gpP l p i ≤ i ∧ (∀ j, gpP l p i ≤ j → j < i → p (at' l j) = false) ∧ (gpP l p i = 0 ∨ p (at' l (gpP l p i - 1)) = true)
  | 0 => ⟨Nat.le_refl _, fun _ _ h2 => absurd h2 (Nat.not_lt_zero _), .inl rfl⟩
  | i + 1 => by
    unfold gpP
    cases h : p (at' l i) with
    | true => exact ⟨Nat.le_refl _, fun j h1 h2 => absurd h2 (Nat.not_lt.2 h1), .inr h⟩
    | false =>
      rw [if_neg (by simp)]
      obtain ⟨h1, h2, h3⟩ := gpP_spec l p i
      refine ⟨by omega, fun j hj1 hj2 => ?_, h3⟩
      rcases Nat.lt_or_ge j i with hj | hj
      · exact h2 j hj1 hj
      · obtain rfl : j = i := by omega
        exact h

theorem gpQ_spec (l : List Sl) (p : Sl → Bool) : ∀ d, d ≤ l.length → l.length - d ≤ gpQ l p d ∧ gpQ l p d ≤ l.length ∧ (∀ j, l.length - d ≤ j → j < gpQ l p d → p (at' l j) = false) ∧ (gpQ l p d = l.length ∨ p (at' l (gpQ l p d)) = true)
  | 0, _ => ⟨Nat.le_refl _, Nat.le_refl _, fun _ h1 h2 => absurd h2 (Nat.not_lt.2 h1), .inl rfl⟩
  | d + 1, hd => by
    unfold gpQ
    cases h : p (at' l (l.length - 1 - d)) with
    | true => exact ⟨by rw [if_pos rfl]; omega, by rw [if_pos rfl]; omega, fun j h1 h2 => by rw [if_pos rfl] at h2; omega, .inr (by rw [if_pos rfl]; exact h)⟩
    | false =>
      rw [if_neg (by simp)]
      obtain ⟨h1, h2, h3, h4⟩ := gpQ_spec l p d (by omega)
      refine ⟨by omega, h2, fun j hj1 hj2 => ?_, h4⟩
      rcases Nat.lt_or_ge j (l.length - d) with hj | hj
      · obtain rfl : j = l.length - 1 - d := by omega
        exact h
      · exact h3 j hj hj2

theorem gfC_spec (l : List Sl) (x : En) : gfC l x ≤ l.length ∧ (∀ j, gfC l x ≤ j → j < l.length → bfS x (at' l j) = false) ∧ (gfC l x = 0 ∨ bfS x (at' l (gfC l x - 1)) = true) := gpP_spec l (bfS x) l.length
theorem gtC_spec (l : List Sl) (x : En) : gtC l x ≤ l.length ∧ (∀ j, j < gtC l x → afS x (at' l j) = false) ∧ (gtC l x = l.length ∨ afS x (at' l (gtC l x)) = true) := by
  obtain ⟨_, h2, h3, h4⟩ := gpQ_spec l (afS x) l.length (Nat.le_refl _)
  exact ⟨h2, fun j hj => h3 j (by omega) hj, h4⟩

/-- A way's last write, and then the others: the way's slots, the last one first. -/
def enW (l : List Sl) (x : En) : List Nat → Nat → List Wr
  | [], k => [⟨k, ⟨true, x⟩⟩]
  | j :: r, k => ⟨k, at' l j⟩ :: enW l x r j

theorem enW_len (l : List Sl) (x : En) : ∀ r k, (enW l x r k).length = r.length + 1
  | [], _ => rfl
  | _ :: r, _ => congrArg (· + 1) (enW_len l x r _)

/-- The way from below, from slot i on (so many are left): its slots, the last one first; which slot is vacated next. -/
def bwC (l : List Sl) (x : En) : Nat → Nat → List Nat → List Wr
  | 0, _, _ => []
  | f + 1, a, r =>
    let i := l.length - 1 - f
    if i = a then (if (at' l i).ok then bwC l x f (gpQ l (afS (at' l i).e) f) (i :: r) else enW l x (i :: r) i)
    else (if (at' l i).ok then bwC l x f a r else enW l x r i)

/-- The way from above, from slot i - 1 on; behind which slot is vacated next. -/
def avC (l : List Sl) (x : En) : Nat → Nat → List Nat → List Wr
  | 0, _, _ => []
  | i + 1, a, r =>
    if i + 1 = a then (if (at' l i).ok then avC l x i (gpP l (bfS (at' l i).e) i) (i :: r) else enW l x (i :: r) i)
    else (if (at' l i).ok then avC l x i a r else enW l x r i)

def belC (l : List Sl) (x : En) : List Wr := bwC l x (l.length - gtC l x) (gtC l x) []
def abvC (l : List Sl) (x : En) : List Wr := avC l x (gfC l x) (gfC l x) []

theorem bwC_len (l : List Sl) (x : En) : ∀ f a r, (bwC l x f a r).length ≤ f + r.length + 1
  | 0, _, _ => Nat.zero_le _
  | f + 1, a, r => by
    unfold bwC
    dsimp only
    split
    · split
      · exact Nat.le_trans (bwC_len l x f _ _) (by rw [List.length_cons]; omega)
      · rw [enW_len, List.length_cons]; omega
    · split
      · exact Nat.le_trans (bwC_len l x f _ _) (by omega)
      · rw [enW_len]; omega

theorem avC_len (l : List Sl) (x : En) : ∀ i a r, (avC l x i a r).length ≤ i + r.length + 1
  | 0, _, _ => Nat.zero_le _
  | i + 1, a, r => by
    unfold avC
    split
    · split
      · exact Nat.le_trans (avC_len l x i _ _) (by rw [List.length_cons]; omega)
      · rw [enW_len, List.length_cons]; omega
    · split
      · exact Nat.le_trans (avC_len l x i _ _) (by omega)
      · rw [enW_len]; omega

theorem avC_none (l : List Sl) (x : En) : ∀ i a r, ((avC l x i a r).length = 0 ↔ ∀ j, j < i → (at' l j).ok = true)
  | 0, _, _ => ⟨fun _ j h => absurd h (Nat.not_lt_zero _), fun _ => rfl⟩
  | i + 1, a, r => by
    have go : ∀ a r, ((at' l i).ok = true) → ((avC l x i a r).length = 0 ↔ ∀ j, j < i + 1 → (at' l j).ok = true) := fun a r h => by
      rw [avC_none l x i a r]
      constructor
      · intro g j h1
        rcases Nat.lt_or_ge j i with hj | hj
        · exact g j hj
        · obtain rfl : j = i := by omega
          exact h
      · exact fun g j h1 => g j (by omega)
    have no : ∀ r k, (at' l i).ok ≠ true → ((enW l x r k).length = 0 ↔ ∀ j, j < i + 1 → (at' l j).ok = true) := fun r k h => by
      rw [enW_len]
      exact ⟨fun e => absurd e (Nat.succ_ne_zero _), fun g => absurd (g _ (by omega)) h⟩
    unfold avC
    split
    · split
      · rename_i h; exact go _ _ h
      · rename_i h; exact no _ _ h
    · split
      · rename_i h; exact go _ _ h
      · rename_i h; exact no _ _ h

/-- An empty slot of the gap. -/
def inC (l : List Sl) (x : En) : Int := geS l (gtC l x - gfC l x) (gfC l x)

/-- What there is of writes where an entry may be, and the order is kept; else why not. -/
def oC (l : List Sl) (x : En) : List Wr :=
  if inC l x < 0 then
    if (belC l x).length = 0 ∨ 0 < (abvC l x).length ∧ (abvC l x).length < (belC l x).length then abvC l x else belC l x
  else [⟨inC l x, ⟨true, x⟩⟩]
def okC (l : List Sl) (x : En) : Bool := orE (ensS l) && decide (gfC l x ≤ gtC l x)
def wC (l : List Sl) (x : En) : List Wr := if rtE x && okC l x then oC l x else []
def eC (l : List Sl) (x : En) : Int := if rtE x then (if okC l x then (if (oC l x).length = 0 then 3 else 0) else 7) else 1

theorem wC_len (l : List Sl) (x : En) : (wC l x).length ≤ l.length + 1 := by
  have h1 := (gfC_spec l x).1
  have h2 := bwC_len l x (l.length - gtC l x) (gtC l x) []
  have h3 := avC_len l x (gfC l x) (gfC l x) []
  rw [List.length_nil] at h2 h3
  unfold wC
  split
  · unfold oC
    split
    · split
      · unfold abvC; omega
      · unfold belC; omega
    · exact Nat.le_add_left 1 _
  · exact Nat.zero_le _

end Go.Sx.M
end

section
/-
  Slots in the order of lengths: the ways as lists of slots, from the empty one to the gap.
-/
namespace Go.Sx.M

/-- The order of lengths is one of neighbours among those that are valid. -/
theorem kp_chain {l : List Sl} : kpS l = true ↔ ∀ j, j + 1 < (ensS l).length → (at' (ensS l) (j + 1)).len ≤ (at' (ensS l) j).len := by
  have hp : KpS l ↔ (ensS l).Pairwise fun x y => y.len ≤ x.len := by
    unfold ensS
    rw [List.pairwise_map, List.pairwise_filter, List.pairwise_iff_getElem]
    constructor
    · intro h i j hi hj hij h1 h2
      have := h j hj i hij
      rw [at_eq hi, at_eq hj] at this
      unfold brS at this
      rw [h1, h2, Bool.and_self, Bool.true_and, decide_eq_false_iff_not] at this
      omega
    · intro h i hi j hij
      have := h j i (by omega) hi hij
      rw [at_eq hi, at_eq (show j < l.length from by omega)]
      unfold brS
      cases h1 : (l[i]).ok with
      | false => rfl
      | true =>
        cases h2 : (l[j]'(by omega)).ok with
        | false => simp
        | true =>
          have := this h2 h1
          simp only [Bool.and_self, Bool.true_and, decide_eq_false_iff_not]
          omega
  rw [kpS_iff, hp]
  generalize ensS l = E
  rw [List.pairwise_iff_getElem]
  constructor
  · intro h j hj
    rw [at_eq hj, at_eq (show j < E.length from by omega)]
    exact h j (j + 1) (by omega) hj (Nat.lt_succ_self j)
  · intro h i j hi hj hij
    rw [← at_eq hi, ← at_eq hj]
    obtain ⟨d, rfl⟩ : ∃ d, j = i + 1 + d := ⟨j - i - 1, by omega⟩
    clear hij
    induction d with
    | zero => exact h i hj
    | succ d ih =>
      have := ih (by omega)
      have h2 := h (i + 1 + d) (by omega)
      rw [show i + 1 + d + 1 = i + 1 + (d + 1) from by omega] at h2
      omega

/-- Of two valid slots the higher one's entry is no longer. -/
theorem kp_len {l : List Sl} (hk : KpS l) {i j : Nat} (hij : i ≤ j) (hj : j < l.length) (h1 : (at' l i).ok = true) (h2 : (at' l j).ok = true) : (at' l j).e.len ≤ (at' l i).e.len := by
  rcases Nat.eq_or_lt_of_le hij with rfl | h
  · exact Int.le_refl _
  · have := hk j hj i h
    unfold brS at this
    rw [h1, h2, Bool.and_self, Bool.true_and, decide_eq_false_iff_not] at this
    omega

/-- Where a gap ends: found by a walk. -/
theorem gf_at {l : List Sl} {n : Int} {k : Nat} (hk : k ≤ l.length) (h : ∀ j, k ≤ j → j < l.length → loS n (at' l j) = false) : gfS l n = gpF l n k := by
  unfold gfS
  obtain ⟨d, hd⟩ : ∃ d, l.length = k + d := ⟨l.length - k, by omega⟩
  rw [hd] at h ⊢
  clear hd hk
  induction d with
  | zero => rfl
  | succ d ih =>
    show (if loS n (at' l (k + d)) then k + d + 1 else gpF l n (k + d)) = gpF l n k
    rw [h (k + d) (by omega) (by omega)]
    exact ih fun j h1 h2 => h j h1 (by omega)

theorem gt_at {l : List Sl} {n : Int} {k : Nat} (hs : shS n (at' l k) = true) (h : ∀ j, j < k → shS n (at' l j) = false) : gtS l n = k := by
  obtain ⟨h1, h2, h3⟩ := gt_spec l n
  rcases Nat.lt_trichotomy (gtS l n) k with hlt | e | hgt
  · rcases h3 with e | e
    · have : (at' l k).ok = true := by unfold shS at hs; rw [Bool.and_eq_true] at hs; exact hs.1
      have hk : k < l.length := Nat.lt_of_not_le fun hle => by
        unfold at' at this
        rw [List.getD_eq_getElem?_getD, List.getElem?_eq_none hle] at this
        cases this
      omega
    · rw [h _ hlt] at e; cases e
  · exact e
  · rw [h2 k hgt] at hs; cases hs

theorem gt_end {l : List Sl} {n : Int} (h : ∀ j, j < l.length → shS n (at' l j) = false) : gtS l n = l.length := by
  obtain ⟨h1, h2, h3⟩ := gt_spec l n
  rcases h3 with e | e
  · exact e
  · rcases Nat.lt_or_ge (gtS l n) l.length with hlt | hge
    · rw [h _ hlt] at e; cases e
    · omega

/-- Behind one that is shorter there is none that is longer. -/
theorem lo_behind {l : List Sl} (hk : KpS l) {n : Int} {k : Nat} (hs : shS n (at' l k) = true) : ∀ j, k ≤ j → j < l.length → loS n (at' l j) = false := fun j h1 h2 => by
  unfold shS at hs
  rw [Bool.and_eq_true, decide_eq_true_eq] at hs
  unfold loS
  cases hj : (at' l j).ok with
  | false => rfl
  | true =>
    have := kp_len hk h1 h2 hs.1 hj
    rw [Bool.true_and, decide_eq_false_iff_not]
    omega

theorem at_part {l : List Sl} {f k j : Nat} (hj : j < k) : at' ((l.drop f).take k) j = at' l (f + j) := by
  unfold at'
  rw [List.getD_eq_getElem?_getD, List.getD_eq_getElem?_getD, List.getElem?_take, if_pos hj, List.getElem?_drop]

theorem part_length {l : List Sl} {f k : Nat} (h : f + k ≤ l.length) : ((l.drop f).take k).length = k := by
  rw [List.length_take, List.length_drop]; omega

/-- The first empty slot of a part. -/
theorem ge_part {l : List Sl} {f k : Nat} : geS ((l.drop f).take k) k 0 = if 0 ≤ geS l k f then geS l k f - f else -1 := by
  rcases geS_spec l k f with ⟨h1, h2⟩ | ⟨i, h1, h2, h3, h4, h5⟩
  · rw [h1, if_neg (by omega)]
    rcases geS_spec ((l.drop f).take k) k 0 with ⟨g1, _⟩ | ⟨j, _, _, g2, g3, _⟩
    · exact g1
    · rw [at_part (by omega), h2 _ (by omega) (by omega)] at g3; cases g3
  · rw [h1, if_pos (by omega)]
    rcases geS_spec ((l.drop f).take k) k 0 with ⟨_, g1⟩ | ⟨j, g0, _, g2, g3, g4⟩
    · have := g1 (i - f) (by omega) (by omega)
      rw [at_part (by omega), show f + (i - f) = i from by omega, h4] at this; cases this
    · rw [g0]
      rw [at_part (by omega)] at g3
      rcases Nat.lt_trichotomy (f + j) i with h | h | h
      · rw [h5 _ (by omega) h] at g3; cases g3
      · omega
      · have := g4 (i - f) (by omega) (by omega)
        rw [at_part (by omega), show f + (i - f) = i from by omega, h4] at this; cases this

theorem up_part {l : List Sl} {k : Nat} : ∀ i, i ≤ k → upS ((l.drop 0).take k) i = upS l i
  | 0, _ => rfl
  | i + 1, h => by
    rw [upS, upS, at_part (by omega), up_part i (by omega), Nat.zero_add]

/-- From distance d on: where the value changes, and the last distance (n + 1 later). -/
def wgS (f : Nat → Int) (d : Nat) : Nat → List Nat
  | 0 => [d + 1]
  | n + 1 => if f (d + 1) ≠ f (d + 2) then (d + 1) :: wgS f (d + 1) n else wgS f (d + 1) n

theorem wgS_first {f : Nat → Int} {m e : Nat} (hc : ∀ a b c, 1 ≤ a → a ≤ b → b ≤ c → c ≤ m → f a = f c → f b = f a) (he : e ≤ m) : ∀ n d, m = d + n + 1 → d < e → f e = f (d + 1) → (∀ j, e < j → j ≤ m → f j ≠ f (d + 1)) →
    wgS f d n = e :: (if e = m then [] else wgS f e (m - 1 - e))
  | 0, d, hm, h1, _, _ => by
    obtain rfl : e = d + 1 := by omega
    rw [wgS, if_pos (by omega)]
  | n + 1, d, hm, h1, h2, h3 => by
    rw [wgS]
    by_cases h : f (d + 1) = f (d + 2)
    · rw [if_neg (by rw [h]; simp)]
      have hlt : d + 1 < e := Nat.lt_of_not_le fun hle => h3 (d + 2) (by omega) (by omega) h.symm
      exact wgS_first hc he n (d + 1) (by omega) hlt (h2.trans h) fun j a b => fun e' => h3 j a b (e'.trans h.symm)
    · rw [if_pos h]
      obtain rfl : e = d + 1 := Nat.le_antisymm (Nat.le_of_not_lt fun hlt => h (hc (d + 1) (d + 2) e (by omega) (by omega) (by omega) he h2.symm).symm) (by omega)
      rw [if_neg (by omega), show m - 1 - (d + 1) = n from by omega]

theorem wgS_length (f : Nat → Int) : ∀ n d, (wgS f d n).length ≤ n + 1
  | 0, d => Nat.le_refl _
  | n + 1, d => by
    have := wgS_length f n (d + 1)
    rw [wgS]
    split
    · rw [List.length_cons]; omega
    · omega

theorem wgS_mem (f : Nat → Int) : ∀ n d, ∀ e ∈ wgS f d n, d < e ∧ e ≤ d + n + 1
  | 0, d, e, h => by
    rw [wgS, List.mem_singleton] at h; omega
  | n + 1, d, e, h => by
    rw [wgS] at h
    split at h
    · rcases List.mem_cons.1 h with rfl | h
      · omega
      · have := wgS_mem f n (d + 1) e h; omega
    · have := wgS_mem f n (d + 1) e h; omega

/-- The slots of a way, from slot t on, in steps of s; its last one is n + 1 steps away. -/
def wyF (l : List Sl) (t s : Int) (d : Nat) : Int := (at' l (t + s * d).toNat).e.len
def wyP (t s : Int) (d : Nat) : Int := t + s * d
def wyS (l : List Sl) (t s : Int) (d n : Nat) : List Int := (wgS (wyF l t s) d n).map (wyP t s)
def wyL (l : List Sl) (t s : Int) (n : Nat) : List Int := t :: wyS l t s 0 n

/-- The writes of a way. -/
def wwL (l : List Sl) (x : En) : List Int → List Wr
  | [] => []
  | [p] => [⟨p, ⟨true, x⟩⟩]
  | p :: q :: r => ⟨p, at' l q.toNat⟩ :: wwL l x (q :: r)

theorem wwL_length (l : List Sl) (x : En) : ∀ w, (wwL l x w).length = w.length
  | [] => rfl
  | [p] => rfl
  | p :: q :: r => by rw [wwL, List.length_cons, List.length_cons, wwL_length l x (q :: r)]

theorem blN_spec (l : List Sl) (p : Nat) : ∀ d, 0 < d → d ≤ p → p - d ≤ blN l p d ∧ blN l p d < p ∧ (at' l (blN l p d)).e.len = (at' l (p - 1)).e.len ∧ ∀ j, p - d ≤ j → j < blN l p d → (at' l j).e.len ≠ (at' l (p - 1)).e.len
  | 0, h, _ => absurd h (Nat.lt_irrefl _)
  | d + 1, _, hp => by
    unfold blN
    split
    · rename_i h
      exact ⟨by omega, by omega, h, fun j h1 h2 => by omega⟩
    · rename_i h
      rcases Nat.eq_zero_or_pos d with rfl | hd
      · exact absurd rfl h
      · obtain ⟨h1, h2, h3, h4⟩ := blN_spec l p d hd (by omega)
        refine ⟨by omega, h2, h3, fun j a b => ?_⟩
        rcases Nat.lt_or_ge j (p - d) with hj | hj
        · obtain rfl : j = p - 1 - d := by omega
          exact h
        · exact h4 j hj b

theorem abN_spec (l : List Sl) (p : Nat) : ∀ d, 0 < d → p < abN l p d ∧ abN l p d ≤ p + d ∧ (at' l (abN l p d)).e.len = (at' l (p + 1)).e.len ∧ ∀ j, abN l p d < j → j ≤ p + d → (at' l j).e.len ≠ (at' l (p + 1)).e.len
  | 0, h => absurd h (Nat.lt_irrefl _)
  | d + 1, _ => by
    unfold abN
    split
    · rename_i h
      exact ⟨by omega, by omega, h, fun j h1 h2 => by omega⟩
    · rename_i h
      rcases Nat.eq_zero_or_pos d with rfl | hd
      · exact absurd rfl h
      · obtain ⟨h1, h2, h3, h4⟩ := abN_spec l p d hd
        refine ⟨h1, by omega, h3, fun j a b => ?_⟩
        rcases Nat.lt_or_ge (p + d) j with hj | hj
        · obtain rfl : j = p + 1 + d := by omega
          exact h
        · exact h4 j a hj

theorem bel_way {l : List Sl} {t : Nat} {x : En} {p : Nat} (hc : ∀ i j, t ≤ i → i ≤ j → j < p → (at' l j).e.len ≤ (at' l i).e.len) : ∀ n d, p = t + d + n + 1 → belS l t x (p - d) = wwL l x (wyP p (-1) d :: wyS l p (-1) d n) := by
  have eP : ∀ d, d ≤ p → wyP p (-1) d = ((p - d : Nat) : Int) := fun d h => by unfold wyP; omega
  have eF : ∀ d, d ≤ p → wyF l p (-1) d = (at' l (p - d)).e.len := fun d h => by
    unfold wyF
    rw [show ((p : Int) + -1 * d).toNat = p - d from by omega]
  intro n
  induction n using Nat.strongRecOn with
  | _ n ih =>
    intro d hp
    obtain ⟨h1, h2, h3, h4⟩ := blN_spec l (p - d) (p - d - t) (by omega) (by omega)
    have hq := belS_step (l := l) (t := t) (x := x) (p := p - d) (by omega)
    rw [hq]
    generalize blN l (p - d) (p - d - t) = q at h1 h2 h3 h4
    obtain ⟨e, he, hqe⟩ : ∃ e, e ≤ p - t ∧ q = p - e := ⟨p - q, by omega, by omega⟩
    subst hqe
    have hde : d < e := by omega
    have hf := wgS_first (f := wyF l p (-1)) (m := p - t) (e := e) (fun a b c a1 a2 a3 a4 a5 => by
      rw [eF _ (by omega), eF _ (by omega)] at a5
      rw [eF _ (by omega), eF _ (by omega)]
      have b1 := hc (p - b) (p - a) (by omega) (by omega) (by omega)
      have b2 := hc (p - c) (p - b) (by omega) (by omega) (by omega)
      omega) he n d (by omega) hde (by rw [eF _ (by omega), eF _ (by omega), show p - (d + 1) = p - d - 1 from by omega]; exact h3) fun j a b => by
        rw [eF _ (by omega), eF _ (by omega), show p - (d + 1) = p - d - 1 from by omega]
        exact h4 (p - j) (by omega) (by omega)
    unfold wyS
    rw [hf, List.map_cons, wwL, eP d (by omega), eP e (by omega), Int.toNat_natCast]
    congr 1
    split
    · rename_i em
      rw [belS_end (by omega)]; rfl
    · rename_i em
      have := ih (p - t - 1 - e) (by omega) e (by omega)
      rw [this, eP e (by omega)]; rfl

theorem abo_way {l : List Sl} {t : Nat} {x : En} {p : Nat} (hc : ∀ i j, p < i → i ≤ j → j ≤ t → (at' l j).e.len ≤ (at' l i).e.len) : ∀ n d, t = p + d + n + 1 → aboS l t x (p + d) = wwL l x (wyP p 1 d :: wyS l p 1 d n) := by
  have eP : ∀ d : Nat, wyP p 1 d = ((p + d : Nat) : Int) := fun d => by unfold wyP; omega
  have eF : ∀ d : Nat, wyF l p 1 d = (at' l (p + d)).e.len := fun d => by
    unfold wyF
    rw [show ((p : Int) + 1 * d).toNat = p + d from by omega]
  intro n
  induction n using Nat.strongRecOn with
  | _ n ih =>
    intro d ht
    obtain ⟨h1, h2, h3, h4⟩ := abN_spec l (p + d) (t - (p + d)) (by omega)
    have hq := aboS_step (l := l) (t := t) (x := x) (p := p + d) (by omega)
    rw [hq]
    generalize abN l (p + d) (t - (p + d)) = q at h1 h2 h3 h4
    obtain ⟨e, hqe⟩ : ∃ e, q = p + e := ⟨q - p, by omega⟩
    subst hqe
    have hde : d < e := by omega
    have hf := wgS_first (f := wyF l p 1) (m := t - p) (e := e) (fun a b c a1 a2 a3 a4 a5 => by
      rw [eF, eF] at a5
      rw [eF, eF]
      have b1 := hc (p + a) (p + b) (by omega) (by omega) (by omega)
      have b2 := hc (p + b) (p + c) (by omega) (by omega) (by omega)
      omega) (by omega) n d (by omega) hde (by rw [eF, eF, show p + (d + 1) = p + d + 1 from by omega]; exact h3) fun j a b => by
        rw [eF, eF, show p + (d + 1) = p + d + 1 from by omega]
        exact h4 (p + j) (by omega) (by omega)
    unfold wyS
    rw [hf, List.map_cons, wwL, eP d, eP e, Int.toNat_natCast]
    congr 1
    split
    · rename_i em
      rw [aboS_end (by omega)]; rfl
    · rename_i em
      have := ih (t - p - 1 - e) (by omega) e (by omega)
      rw [this, eP e]; rfl

/-- The two ways, and the one that is taken. -/
def wbL (l : List Sl) (n : Int) : List Int := wyL l (dnG l n) (-1) ((dnG l n).toNat - gtS l n - 1)
def waL (l : List Sl) (n : Int) : List Int := wyL l (upG l n) 1 (gfS l n - 1 - (upG l n).toNat - 1)
def wsL (l : List Sl) (n : Int) : List Int :=
  if 0 ≤ inG l n then [inG l n] else if dnG l n < 0 then waL l n else if 0 ≤ upG l n ∧ (waL l n).length < (wbL l n).length then waL l n else wbL l n

/-- Where the first empty slot below is, and what is ahead of it. -/
theorem dn_at {l : List Sl} {n : Int} (h : 0 ≤ dnG l n) : ∃ p : Nat, dnG l n = p ∧ gtS l n < p ∧ p < l.length ∧ ∀ j, gtS l n ≤ j → j < p → (at' l j).ok = true := by
  obtain ⟨t1, _, t3⟩ := gt_spec l n
  unfold dnG at h ⊢
  rcases geS_spec l (l.length - gtS l n) (gtS l n) with ⟨e, _⟩ | ⟨i, e, h1, h2, h3, h4⟩
  · omega
  · refine ⟨i, e, Nat.lt_of_le_of_ne h1 fun he => ?_, by omega, h4⟩
    rcases t3 with t3 | t3
    · omega
    · rw [he, sh_none h3] at t3; cases t3

theorem up_at {l : List Sl} {n : Int} (h : 0 ≤ upG l n) : ∃ p : Nat, upG l n = p ∧ p + 1 < gfS l n ∧ gfS l n ≤ l.length ∧ ∀ j, p < j → j < gfS l n → (at' l j).ok = true := by
  obtain ⟨f1, _, f3⟩ := gf_spec l n
  unfold upG at h ⊢
  rcases upS_spec l (gfS l n) with ⟨e, _⟩ | ⟨i, e, h1, h3, h4⟩
  · omega
  · refine ⟨i, e, Nat.lt_of_le_of_ne h1 fun he => ?_, f1, h4⟩
    have f3 := f3.resolve_left (by omega)
    rw [show gfS l n - 1 = i from by omega, lo_none h3] at f3; cases f3

theorem wb_bel {l : List Sl} (hk : KpS l) {x : En} (h : 0 ≤ dnG l x.len) : wwL l x (wbL l x.len) = bel l x := by
  obtain ⟨p, e, h1, h2, h3⟩ := dn_at h
  have := bel_way (l := l) (t := gtS l x.len) (x := x) (p := p) (fun i j a b c => kp_len hk b (by omega) (h3 i a (by omega)) (h3 j (by omega) c)) (p - gtS l x.len - 1) 0 (by omega)
  unfold wbL bel wyL
  rw [e, Int.toNat_natCast, show p = p - 0 from rfl, this]
  unfold wyP
  simp

theorem wa_abo {l : List Sl} (hk : KpS l) {x : En} (h : 0 ≤ upG l x.len) : wwL l x (waL l x.len) = abo l x := by
  obtain ⟨p, e, h1, h2, h3⟩ := up_at h
  have := abo_way (l := l) (t := gfS l x.len - 1) (x := x) (p := p) (fun i j a b c => kp_len hk b (by omega) (h3 i a (by omega)) (h3 j (by omega) (by omega))) (gfS l x.len - 1 - p - 1) 0 (by omega)
  unfold waL abo wyL
  rw [e, Int.toNat_natCast, show p = p + 0 from rfl, this]
  unfold wyP
  simp

theorem ws_in {l : List Sl} (hk : KpS l) {x : En} (h : ¬ (inG l x.len < 0 ∧ dnG l x.len < 0 ∧ upG l x.len < 0)) : wwL l x (wsL l x.len) = inO l x := by
  unfold wsL inO
  by_cases hi : inG l x.len < 0
  · rw [if_neg (by omega), if_pos hi]
    by_cases hd : dnG l x.len < 0
    · rw [if_pos hd, if_pos hd, if_neg (fun h3 => h ⟨hi, hd, h3⟩), wa_abo hk (by omega)]
    · rw [if_neg hd, if_neg hd]
      have eb := wb_bel hk (x := x) (by omega)
      by_cases hu : 0 ≤ upG l x.len
      · have ea := wa_abo hk hu
        rw [← eb, ← ea, wwL_length, wwL_length]
        split <;> rfl
      · rw [if_neg (fun h => hu h.1), if_neg (fun h => hu h.1), eb]
  · rw [if_pos (by omega), if_neg hi]; rfl

end Go.Sx.M
end

section
/-
  Ways of chains, from slot to slot: each entry goes to the next slot that is free, or has one that it may not pass: plain mathematics.
-/
namespace Go.Sx.M

/-- What is moved next, behind slots that were taken (the last one first); the writes so far, in the order of moving. -/
def mvC (l : List Sl) (x : En) : List Nat → Sl
  | [] => ⟨true, x⟩
  | j :: _ => at' l j
def wsC (l : List Sl) (x : En) : List Nat → List Wr
  | [] => []
  | j :: r => wsC l x r ++ [⟨j, mvC l x r⟩]

theorem wsC_len (l : List Sl) (x : En) : ∀ r, (wsC l x r).length = r.length
  | [] => rfl
  | j :: r => by unfold wsC; rw [List.length_append, wsC_len l x r]; rfl

theorem ws_rev (l : List Sl) (x : En) : ∀ r k, (wsC l x (k :: r)).reverse = enW l x r k
  | [], k => rfl
  | j :: r, k => by
    rw [wsC, List.reverse_append, ws_rev l x r j]; rfl

/-- What is to come: from slot i on; down from slot i - 1. -/
def bwS (l : List Sl) (x : En) (r : List Nat) (i : Nat) : List Wr := bwC l x (l.length - i) (gpQ l (afS (mvC l x r).e) (l.length - i)) r
def awS (l : List Sl) (x : En) (r : List Nat) (i : Nat) : List Wr := avC l x i (gpP l (bfS (mvC l x r).e) i) r

theorem bw_end (l : List Sl) (x : En) (r : List Nat) : bwS l x r l.length = [] := by
  unfold bwS
  rw [Nat.sub_self]; rfl

theorem bw_unf {l : List Sl} {x : En} {r : List Nat} {i : Nat} (h : i < l.length) : bwS l x r i =
    if i = gpQ l (afS (mvC l x r).e) (l.length - i) then (if (at' l i).ok then bwS l x (i :: r) (i + 1) else enW l x (i :: r) i)
    else (if (at' l i).ok then bwC l x (l.length - (i + 1)) (gpQ l (afS (mvC l x r).e) (l.length - i)) r else enW l x r i) := by
  obtain ⟨f, hf⟩ : ∃ f, l.length - i = f + 1 := ⟨l.length - i - 1, by omega⟩
  have e1 : l.length - 1 - f = i := by omega
  have e2 : l.length - (i + 1) = f := by omega
  unfold bwS
  rw [e2, hf, bwC, e1]
  rfl

theorem bw_gap {l : List Sl} {p : Sl → Bool} {i : Nat} (h : i < l.length) : gpQ l p (l.length - i) = if p (at' l i) then i else gpQ l p (l.length - (i + 1)) := by
  obtain ⟨f, hf⟩ : ∃ f, l.length - i = f + 1 := ⟨l.length - i - 1, by omega⟩
  have e1 : l.length - 1 - f = i := by omega
  have e2 : l.length - (i + 1) = f := by omega
  rw [e2, hf, gpQ, e1]

theorem bw_above {l : List Sl} {p : Sl → Bool} {i : Nat} (h : i < l.length) : i < gpQ l p (l.length - (i + 1)) := by
  have := (gpQ_spec l p (l.length - (i + 1)) (by omega)).1
  omega

theorem bw_skip {l : List Sl} {x : En} {r : List Nat} {i : Nat} (h : i < l.length) (ho : (at' l i).ok = true) (ha : abE (mvC l x r).e (at' l i).e = false) : bwS l x r i = bwS l x r (i + 1) := by
  have hs : afS (mvC l x r).e (at' l i) = false := by unfold afS; rw [ho, ha]; rfl
  have hg := bw_above (p := afS (mvC l x r).e) h
  have he : gpQ l (afS (mvC l x r).e) (l.length - i) = gpQ l (afS (mvC l x r).e) (l.length - (i + 1)) := by rw [bw_gap h, hs]; rfl
  rw [bw_unf h, he, if_neg (by omega), if_pos ho]; rfl

theorem bw_free {l : List Sl} {x : En} {r : List Nat} {i : Nat} (h : i < l.length) (ho : (at' l i).ok = false) : bwS l x r i = (wsC l x (i :: r)).reverse := by
  have hs : afS (mvC l x r).e (at' l i) = false := af_none ho
  have hg := bw_above (p := afS (mvC l x r).e) h
  have he : gpQ l (afS (mvC l x r).e) (l.length - i) = gpQ l (afS (mvC l x r).e) (l.length - (i + 1)) := by rw [bw_gap h, hs]; rfl
  rw [bw_unf h, he, if_neg (by omega), ho, if_neg (by simp), ws_rev]

theorem bw_take {l : List Sl} {x : En} {r : List Nat} {i : Nat} (h : i < l.length) (ho : (at' l i).ok = true) (ha : abE (mvC l x r).e (at' l i).e = true) : bwS l x r i = bwS l x (i :: r) (i + 1) := by
  have hs : afS (mvC l x r).e (at' l i) = true := by unfold afS; rw [ho, ha]; rfl
  have he : gpQ l (afS (mvC l x r).e) (l.length - i) = i := by rw [bw_gap h, hs]; rfl
  rw [bw_unf h, he, if_pos rfl, if_pos ho]

theorem bw_skips {l : List Sl} {x : En} {r : List Nat} {i : Nat} : ∀ d, i + d ≤ l.length → (∀ j, i ≤ j → j < i + d → (at' l j).ok = true ∧ abE (mvC l x r).e (at' l j).e = false) → bwS l x r i = bwS l x r (i + d)
  | 0, _, _ => rfl
  | d + 1, hd, hj => by
    rw [bw_skips d (by omega) fun j h1 h2 => hj j h1 (by omega)]
    obtain ⟨h1, h2⟩ := hj (i + d) (by omega) (by omega)
    exact bw_skip (by omega) h1 h2

theorem aw_end (l : List Sl) (x : En) (r : List Nat) : awS l x r 0 = [] := rfl

theorem aw_skip {l : List Sl} {x : En} {r : List Nat} {i : Nat} (ho : (at' l i).ok = true) (ha : abE (at' l i).e (mvC l x r).e = false) : awS l x r (i + 1) = awS l x r i := by
  have hs : bfS (mvC l x r).e (at' l i) = false := by unfold bfS; rw [ho, ha]; rfl
  have hg := (gpP_spec l (bfS (mvC l x r).e) i).1
  unfold awS
  rw [gpP, hs, if_neg (by simp), avC, if_neg (by omega), if_pos ho]

theorem aw_free {l : List Sl} {x : En} {r : List Nat} {i : Nat} (ho : (at' l i).ok = false) : awS l x r (i + 1) = (wsC l x (i :: r)).reverse := by
  have hs : bfS (mvC l x r).e (at' l i) = false := bf_none ho
  have hg := (gpP_spec l (bfS (mvC l x r).e) i).1
  unfold awS
  rw [gpP, hs, if_neg (by simp), avC, if_neg (by omega), ho, if_neg (by simp), ws_rev]

theorem aw_take {l : List Sl} {x : En} {r : List Nat} {i : Nat} (ho : (at' l i).ok = true) (ha : abE (at' l i).e (mvC l x r).e = true) : awS l x r (i + 1) = awS l x (i :: r) i := by
  have hs : bfS (mvC l x r).e (at' l i) = true := by unfold bfS; rw [ho, ha]; rfl
  unfold awS
  rw [gpP, hs, if_pos rfl, avC, if_pos rfl, if_pos ho]; rfl

theorem aw_skips {l : List Sl} {x : En} {r : List Nat} {i : Nat} : ∀ d, (∀ j, i ≤ j → j < i + d → (at' l j).ok = true ∧ abE (at' l j).e (mvC l x r).e = false) → awS l x r (i + d) = awS l x r i
  | 0, _ => rfl
  | d + 1, hj => by
    obtain ⟨h1, h2⟩ := hj (i + d) (by omega) (by omega)
    rw [show i + (d + 1) = i + d + 1 from rfl, aw_skip h1 h2, aw_skips d fun j h1 h2 => hj j h1 (by omega)]

/-- The two ways as the program goes them; which one is taken. -/
def blP (l : List Sl) (x : En) : List Wr := bwS l x [] (gfC l x)
def avP (l : List Sl) (x : En) : List Wr := awS l x [] (gtC l x)

theorem gpQ_skips {l : List Sl} {p : Sl → Bool} {i : Nat} : ∀ d, i + d ≤ l.length → (∀ j, i ≤ j → j < i + d → p (at' l j) = false) → gpQ l p (l.length - i) = gpQ l p (l.length - (i + d))
  | 0, _, _ => rfl
  | d + 1, hd, hj => by
    rw [gpQ_skips d (by omega) fun j h1 h2 => hj j h1 (by omega), bw_gap (show i + d < l.length by omega), hj (i + d) (by omega) (by omega)]
    rfl

theorem gpP_skips {l : List Sl} {p : Sl → Bool} {i : Nat} : ∀ d, (∀ j, i ≤ j → j < i + d → p (at' l j) = false) → gpP l p (i + d) = gpP l p i
  | 0, _ => rfl
  | d + 1, hj => by
    rw [show i + (d + 1) = i + d + 1 from rfl, gpP, hj (i + d) (by omega) (by omega), if_neg (by simp), gpP_skips d fun j h1 h2 => hj j h1 (by omega)]

/-- The first one of i slots that is such, by the least number. -/
def gpM (l : List Sl) (p : Sl → Bool) : Nat → Nat
  | 0 => l.length
  | i + 1 => if p (at' l i) then (if i < gpM l p i then i else gpM l p i) else gpM l p i

theorem gpM_spec (l : List Sl) (p : Sl → Bool) : ∀ i, i ≤ l.length → (gpM l p i = l.length ∧ ∀ j, j < i → p (at' l j) = false) ∨ (gpM l p i < i ∧ p (at' l (gpM l p i)) = true ∧ ∀ j, j < gpM l p i → p (at' l j) = false)
  | 0, _ => .inl ⟨rfl, fun j h => absurd h (Nat.not_lt_zero _)⟩
  | i + 1, hi => by
    unfold gpM
    cases h : p (at' l i) with
    | true =>
      rw [if_pos rfl]
      rcases gpM_spec l p i (by omega) with ⟨a, b⟩ | ⟨a, b, c⟩
      · rw [if_pos (by omega)]
        exact .inr ⟨by omega, h, fun j hj => b j hj⟩
      · rw [if_neg (by omega)]
        exact .inr ⟨by omega, b, c⟩
    | false =>
      rw [if_neg (by simp)]
      rcases gpM_spec l p i (by omega) with ⟨a, b⟩ | ⟨a, b, c⟩
      · refine .inl ⟨a, fun j hj => ?_⟩
        rcases Nat.lt_or_ge j i with h1 | h1
        · exact b j h1
        · obtain rfl : j = i := by omega
          exact h
      · exact .inr ⟨by omega, b, c⟩

theorem gpM_all (l : List Sl) (p : Sl → Bool) : gpM l p l.length = gpQ l p l.length := by
  obtain ⟨_, h2, h3, h4⟩ := gpQ_spec l p l.length (Nat.le_refl _)
  rw [Nat.sub_self] at h3
  rcases gpM_spec l p l.length (Nat.le_refl _) with ⟨a, b⟩ | ⟨a, b, c⟩
  · rcases h4 with h4 | h4
    · rw [a, h4]
    · rcases Nat.lt_or_ge (gpQ l p l.length) l.length with h | h
      · rw [b _ h] at h4; cases h4
      · omega
  · rcases Nat.lt_trichotomy (gpM l p l.length) (gpQ l p l.length) with h | h | h
    · rw [h3 _ (Nat.zero_le _) h] at b; cases b
    · exact h
    · rcases h4 with h4 | h4
      · omega
      · rw [c _ h] at h4; cases h4

theorem oC_ways {l : List Sl} {x : En} (hle : gfC l x ≤ gtC l x) : oC l x = if (blP l x).length = 0 ∨ 0 < (avP l x).length ∧ (avP l x).length < (blP l x).length then avP l x else blP l x := by
  obtain ⟨f1, f2, f3⟩ := gfC_spec l x
  obtain ⟨t1, t2, t3⟩ := gtC_spec l x
  have nB : ∀ j, (at' l j).ok = true → j < gtC l x → abE x (at' l j).e = false := fun j ho hj => by
    have := t2 j hj
    unfold afS at this
    rw [ho] at this
    exact this
  have nA : ∀ j, (at' l j).ok = true → gfC l x ≤ j → j < l.length → abE (at' l j).e x = false := fun j ho h1 h2 => by
    have := f2 j h1 h2
    unfold bfS at this
    rw [ho] at this
    exact this
  unfold oC
  split
  · rename_i hn
    have hall : ∀ j, gfC l x ≤ j → j < gtC l x → (at' l j).ok = true := by
      unfold inC at hn
      rcases geS_spec l (gtC l x - gfC l x) (gfC l x) with ⟨_, a⟩ | ⟨q, e, _⟩
      · exact fun j h1 h2 => a j h1 (by omega)
      · omega
    have eB : blP l x = belC l x := by
      unfold blP belC
      rw [bw_skips (l := l) (x := x) (r := []) (gtC l x - gfC l x) (by omega) fun j h1 h2 => ⟨hall j h1 (by omega), nB j (hall j h1 (by omega)) (by omega)⟩, show gfC l x + (gtC l x - gfC l x) = gtC l x by omega]
      unfold bwS
      have := gpQ_skips (l := l) (p := afS x) (i := 0) (gtC l x) (by omega) fun j _ h2 => t2 j (by omega)
      rw [Nat.zero_add, Nat.sub_zero] at this
      show bwC l x _ (gpQ l (afS x) (l.length - gtC l x)) [] = _
      rw [← this]; rfl
    have eA : avP l x = abvC l x := by
      unfold avP abvC
      have := aw_skips (l := l) (x := x) (r := []) (i := gfC l x) (gtC l x - gfC l x) fun j h1 h2 => ⟨hall j h1 (by omega), nA j (hall j h1 (by omega)) h1 (by omega)⟩
      rw [show gfC l x + (gtC l x - gfC l x) = gtC l x by omega] at this
      rw [this]
      unfold awS
      have := gpP_skips (l := l) (p := bfS x) (i := gfC l x) (l.length - gfC l x) fun j h1 h2 => f2 j h1 (by omega)
      rw [show gfC l x + (l.length - gfC l x) = l.length by omega] at this
      show avC l x _ (gpP l (bfS x) (gfC l x)) [] = _
      rw [← this]; rfl
    rw [eB, eA]
  · rename_i hn
    obtain ⟨q, eq, q1, q2, q3, q4⟩ : ∃ q : Nat, inC l x = q ∧ gfC l x ≤ q ∧ q < gtC l x ∧ (at' l q).ok = false ∧ ∀ j, gfC l x ≤ j → j < q → (at' l j).ok = true := by
      unfold inC at hn ⊢
      rcases geS_spec l (gtC l x - gfC l x) (gfC l x) with ⟨e, _⟩ | ⟨q, e, a, b, c, d⟩
      · rw [e] at hn; exact absurd (by decide) hn
      · exact ⟨q, e, a, by omega, c, d⟩
    have eB : blP l x = [⟨q, ⟨true, x⟩⟩] := by
      unfold blP
      rw [bw_skips (l := l) (x := x) (r := []) (q - gfC l x) (by omega) fun j h1 h2 => ⟨q4 j h1 (by omega), nB j (q4 j h1 (by omega)) (by omega)⟩, show gfC l x + (q - gfC l x) = q by omega, bw_free (by omega) q3]
      rfl
    have nA : (avP l x).length ≠ 0 := fun h => by
      unfold avP awS at h
      have := (avC_none l x _ _ _).1 h q q2
      rw [q3] at this; cases this
    rw [eB, eq, if_neg]
    rintro (h | ⟨_, h⟩)
    · cases h
    · have h : (avP l x).length < 1 := h
      omega

/-- Turned round, so many from each end; one more from the lower end. -/
def rvS (W : List Wr) (i : Nat) : List Wr := (List.range W.length).map fun k => if k < i ∨ W.length ≤ k + i then at' W (W.length - 1 - k) else at' W k
def rvT (W : List Wr) (i : Nat) : List Wr := (rvS W i).set i (at' W (W.length - 1 - i))

theorem rvS_len (W : List Wr) (i : Nat) : (rvS W i).length = W.length := by unfold rvS; rw [List.length_map, List.length_range]
theorem rvT_len (W : List Wr) (i : Nat) : (rvT W i).length = W.length := by unfold rvT; rw [List.length_set, rvS_len]

theorem rvS_get {W : List Wr} {i k : Nat} (h : k < W.length) : (rvS W i)[k]'(by rw [rvS_len]; exact h) = if k < i ∨ W.length ≤ k + i then at' W (W.length - 1 - k) else at' W k := by
  unfold rvS
  rw [List.getElem_map, List.getElem_range]

theorem rvS_at {W : List Wr} {i k : Nat} (h : k < W.length) (h1 : i ≤ k) (h2 : k + i < W.length) : at' (rvS W i) k = at' W k := by
  rw [at_eq (by rw [rvS_len]; exact h), rvS_get h, if_neg (by omega)]

theorem rvS_zero (W : List Wr) : rvS W 0 = W := List.ext_getElem (rvS_len W 0) fun k h1 h2 => by
  rw [rvS_get h2, if_neg (by omega), at_eq h2]

theorem rvS_done {W : List Wr} {i : Nat} (h : W.length ≤ 2 * i + 1) : rvS W i = W.reverse := List.ext_getElem (by rw [rvS_len, List.length_reverse]) fun k h1 h2 => by
  have hk : k < W.length := by rw [rvS_len] at h1; exact h1
  rw [rvS_get hk, List.getElem_reverse]
  split
  · rw [at_eq (by omega)]
  · have : W.length - 1 - k = k := by omega
    rw [at_eq hk]
    congr 1
    exact this.symm

theorem rvS_step {W : List Wr} {i : Nat} (h : 2 * i + 1 < W.length) : (rvT W i).set (W.length - 1 - i) (at' W i) = rvS W (i + 1) := List.ext_getElem (by rw [List.length_set, rvT_len, rvS_len]) fun k h1 h2 => by
  have hk : k < W.length := by rw [rvS_len] at h2; exact h2
  rw [rvS_get hk, List.getElem_set]
  unfold rvT
  split
  · rename_i e
    subst e
    rw [if_pos (by omega), show W.length - 1 - (W.length - 1 - i) = i by omega]
  · rename_i e
    rw [List.getElem_set]
    split
    · rename_i e2
      subst e2
      rw [if_pos (by omega)]
    · rename_i e2
      rw [rvS_get hk]
      by_cases hc : k < i ∨ W.length ≤ k + i
      · rw [if_pos hc, if_pos (by omega)]
      · rw [if_neg hc, if_neg (by omega)]

end Go.Sx.M
end

