/-
  Texts in one: M01 M02 M03 M04 M09 M11 M12 M13 M15.
-/
import Derived.Laws.Small

section
/-
  Plain mathematics for layer 1: the bits of two words, from the left. No program.
-/
namespace Go.Sx.M

/-- Bit k of two words, from the left. -/
def bitAt (a b : BitVec 64) (k : Nat) : Bool := if k < 64 then a.getMsbD k else b.getMsbD (k - 64)

def divs (a : BitVec 64) : Nat → BitVec 64
  | 0 => a
  | j + 1 => divs a j / BitVec.ofInt 64 2

def bitDiv (a b : BitVec 64) (k : Nat) : Bool :=
  match decide (k < 64) with
  | true => divs a (63 - k) % BitVec.ofInt 64 2 == BitVec.ofInt 64 1
  | false => divs b (127 - k) % BitVec.ofInt 64 2 == BitVec.ofInt 64 1

theorem divs_toNat (a : BitVec 64) : ∀ j, (divs a j).toNat = a.toNat / 2 ^ j
  | 0 => by simp [divs]
  | j + 1 => by
    rw [divs, BitVec.toNat_udiv, divs_toNat a j, show (BitVec.ofInt 64 2).toNat = 2 from by decide, Nat.div_div_eq_div_mul, Nat.pow_succ]

theorem divs_bit (a : BitVec 64) (j : Nat) : (divs a j % BitVec.ofInt 64 2 == BitVec.ofInt 64 1) = a.getLsbD j := by
  rw [Bool.eq_iff_iff, beq_iff_eq, ← BitVec.toNat_inj, BitVec.toNat_umod, divs_toNat, show (BitVec.ofInt 64 2).toNat = 2 from by decide, show (BitVec.ofInt 64 1).toNat = 1 from by decide,
    BitVec.getLsbD, Nat.testBit_eq_decide_div_mod_eq, decide_eq_true_eq]

theorem bitDiv_eq {a b : BitVec 64} {k : Nat} (hk : k < 128) : bitDiv a b k = bitAt a b k := by
  unfold bitDiv bitAt
  by_cases h : k < 64
  · simp only [h, decide_true, if_true, divs_bit, BitVec.getMsbD, Bool.true_and]
  · simp only [h, decide_false, if_false, divs_bit, BitVec.getMsbD]
    rw [show decide (k - 64 < 64) = true from by simp; omega, Bool.true_and]
    congr 1
    omega

/-- The first n of bits, as a number. -/
def W (f : Nat → Bool) : Nat → BitVec 64
  | 0 => 0#64
  | n + 1 => if f n then W f n * 2#64 + 1#64 else W f n * 2#64

theorem mul_two (x : BitVec 64) : x * 2#64 = x <<< 1 := by
  apply BitVec.eq_of_toNat_eq
  rw [BitVec.toNat_mul, BitVec.toNat_shiftLeft, Nat.shiftLeft_eq]
  rfl

theorem shl_one_or (x : BitVec 64) : x <<< 1 + 1#64 = x <<< 1 ||| 1#64 := by
  apply BitVec.add_eq_or_of_and_eq_zero
  apply BitVec.eq_of_getLsbD_eq
  intro i hi
  cases i <;> simp [BitVec.getLsbD_one]

theorem W_get (f : Nat → Bool) : ∀ n, n ≤ 64 → ∀ j, (W f n).getLsbD j = (decide (j < n) && f (n - 1 - j))
  | 0, _, j => by simp [W]
  | n + 1, hn, j => by
    have ih := W_get f n (by omega)
    have e : W f (n + 1) = (W f n <<< 1) ||| (if f n then 1#64 else 0#64) := by
      show (if f n then W f n * 2#64 + 1#64 else W f n * 2#64) = _
      rw [mul_two]
      cases f n
      · simp
      · exact shl_one_or _
    rw [e, BitVec.getLsbD_or, BitVec.getLsbD_shiftLeft]
    rcases Nat.eq_zero_or_pos j with h0 | h0
    · subst h0
      simp only [Nat.sub_zero, Nat.add_sub_cancel]
      cases f n <;> simp
    · rw [ih (j - 1)]
      have h1 : (if f n = true then 1#64 else 0#64).getLsbD j = false := by
        split
        · rw [BitVec.getLsbD_one]; simp; omega
        · simp
      rw [h1, Bool.or_false]
      by_cases hj : j < n + 1
      · have a1 : decide (j < 64) = true := by simp; omega
        have a2 : decide (j < 1) = false := by simp; omega
        have a3 : decide (j - 1 < n) = true := by simp; omega
        have a4 : decide (j < n + 1) = true := by simp; omega
        rw [a1, a2, a3, a4]
        simp only [Bool.not_false, Bool.true_and]
        congr 1; omega
      · have a3 : decide (j - 1 < n) = false := by simp; omega
        have a4 : decide (j < n + 1) = false := by simp; omega
        rw [a3, a4]; simp

theorem msb_eq {a b : BitVec 64} (h : ∀ i, i < 64 → a.getMsbD i = b.getMsbD i) : a = b := by
  apply BitVec.eq_of_getMsbD_eq
  intro i hi
  exact h i hi

theorem W_msb (f : Nat → Bool) {i : Nat} (hi : i < 64) : (W f 64).getMsbD i = f i := by
  rw [BitVec.getMsbD, W_get f 64 (by omega)]
  have a1 : decide (i < 64) = true := by simpa using hi
  have a2 : decide (64 - 1 - i < 64) = true := by simp; omega
  rw [a1, a2]
  simp only [Bool.true_and]
  congr 1; omega

theorem W_eq {f : Nat → Bool} {a : BitVec 64} (h : ∀ i, i < 64 → f i = a.getMsbD i) : W f 64 = a :=
  msb_eq fun i hi => by rw [W_msb f hi, h i hi]

/-- A word with the bit j from the right alone. -/
def one (j : Nat) : BitVec 64 := BitVec.ofInt 64 1 <<< j

/-- A word with its bit k, from the left, so. -/
def put (a : BitVec 64) (k : Int) (c : Bool) : BitVec 64 :=
  if 0 ≤ k ∧ k < 64 then (match c with | true => a ||| one (63 - k.toNat) | false => a &&& ~~~one (63 - k.toNat)) else a

end Go.Sx.M
end

section
/-
  Plain mathematics: the sums of adjacent bits (what OnesCount64 computes) count the bits that are set. No program.
-/
namespace Go.Sx.M

def val : List Nat → Nat
  | [] => 0
  | u :: l => 256 * val l + u

def small (l : List Nat) : Prop := ∀ u ∈ l, u < 256

def s1 (u : Nat) : Nat := (u / 2 &&& 85) + (u &&& 85)
def s2 (u : Nat) : Nat := (u / 4 &&& 51) + (u &&& 51)
def s3 (u : Nat) : Nat := u / 16 + u &&& 15

theorem a1 : ∀ u : Fin 256, ∀ c : Fin 2, (u.val / 2 + 128 * c.val) &&& 85 = u.val / 2 &&& 85 := by decide +kernel
theorem a2 : ∀ u : Fin 256, ∀ c : Fin 4, (u.val / 4 + 64 * c.val) &&& 51 = u.val / 4 &&& 51 := by decide +kernel
theorem b1 : ∀ u : Fin 256, s1 u.val < 256 := by decide +kernel
theorem b2 : ∀ u : Fin 256, s2 (s1 u.val) < 69 ∧ s2 (s1 u.val) % 16 < 5 := by decide +kernel
theorem a3 : ∀ u : Fin 69, ∀ c : Fin 5, (u.val / 16 + 16 * c.val + u.val) &&& 15 = (u.val / 16 + u.val) &&& 15 := by decide +kernel

/-- How many of the first n bits are set. -/
def cnt : Nat → Nat → Nat
  | 0, _ => 0
  | n + 1, x => cnt n x + (if x.testBit n then 1 else 0)

theorem c3 : ∀ u : Fin 256, s3 (s2 (s1 u.val)) = cnt 8 u.val := by decide +kernel

theorem last (c0 c1 c2 c3 c4 c5 c6 c7 : Nat) (h0 : c0 < 9) (h1 : c1 < 9) (h2 : c2 < 9) (h3 : c3 < 9) (h4 : c4 < 9) (h5 : c5 < 9) (h6 : c6 < 9) (h7 : c7 < 9) (y y1 y2 y3 : Nat)
    (hy : y = val [c0, c1, c2, c3, c4, c5, c6, c7]) (hy1 : y1 = y + y / 256) (hy2 : y2 = y1 + y1 / 65536) (hy3 : y3 = y2 + y2 / 4294967296) :
    y3 < 18446744073709551616 ∧ y3 % 128 = c0 + c1 + c2 + c3 + c4 + c5 + c6 + c7 := by
  simp only [val] at hy
  have q1 : y / 256 = val [c1, c2, c3, c4, c5, c6, c7] := by simp only [val]; omega
  simp only [val] at q1
  have e1 : y1 = val [c0 + c1, c1 + c2, c2 + c3, c3 + c4, c4 + c5, c5 + c6, c6 + c7, c7] := by simp only [val]; omega
  clear hy1 q1 hy
  simp only [val] at e1
  have q2 : y1 / 65536 = val [c2 + c3, c3 + c4, c4 + c5, c5 + c6, c6 + c7, c7] := by simp only [val]; omega
  simp only [val] at q2
  have e2 : y2 = val [c0 + c1 + c2 + c3, c1 + c2 + c3 + c4, c2 + c3 + c4 + c5, c3 + c4 + c5 + c6, c4 + c5 + c6 + c7, c5 + c6 + c7, c6 + c7, c7] := by simp only [val]; omega
  clear hy2 q2 e1
  simp only [val] at e2
  have q3 : y2 / 4294967296 = val [c4 + c5 + c6 + c7, c5 + c6 + c7, c6 + c7, c7] := by simp only [val]; omega
  simp only [val] at q3
  have e3 : y3 = val [c0 + c1 + c2 + c3 + c4 + c5 + c6 + c7, c1 + c2 + c3 + c4 + c5 + c6 + c7, c2 + c3 + c4 + c5 + c6 + c7, c3 + c4 + c5 + c6 + c7, c4 + c5 + c6 + c7, c5 + c6 + c7, c6 + c7, c7] := by simp only [val]; omega
  clear hy3 q3 e2
  simp only [val] at e3
  constructor <;> omega

end Go.Sx.M
end

section
/-
  Plain mathematics: how many bits of two words are set, counted from the left. No program.
-/
namespace Go.Sx.M

end Go.Sx.M
end

section
/-
  Plain mathematics: the first bit that differs; two words as one number. No program.
-/
namespace Go.Sx.M

structure IsCom (f g : Nat → Bool) (n : Nat) : Prop where
  le : n ≤ 128
  same : ∀ i, i < n → f i = g i
  other : n < 128 → f n ≠ g n

theorem IsCom.uniq {f g : Nat → Bool} {n m : Nat} (h : IsCom f g n) (h' : IsCom f g m) : n = m := by
  rcases Nat.lt_trichotomy n m with hlt | h0 | hlt
  · exact absurd (h'.same n hlt) (h.other (by have := h'.le; omega))
  · exact h0
  · exact absurd (h.same m hlt) (h'.other (by have := h.le; omega))

theorem IsCom.symm {f g : Nat → Bool} {n : Nat} (h : IsCom f g n) : IsCom g f n := ⟨h.le, fun i hi => (h.same i hi).symm, fun hn e => h.other hn e.symm⟩

/-- Two words as one number. -/
def V (a b : BitVec 64) : Nat := a.toNat * 2 ^ 64 + b.toNat

theorem bitAt_eq {a b c d : BitVec 64} (h : ∀ k, k < 128 → bitAt a b k = bitAt c d k) : a = c ∧ b = d := by
  refine ⟨msb_eq fun i hi => ?_, msb_eq fun i hi => ?_⟩
  · have := h i (by omega)
    unfold bitAt at this
    rwa [if_pos hi, if_pos hi] at this
  · have := h (64 + i) (by omega)
    unfold bitAt at this
    rwa [if_neg (by omega), if_neg (by omega), Nat.add_sub_cancel_left] at this

/-- Which of two numbers is the greater one. -/
def cmpV (m n : Nat) : Int := if m = n then 0 else if m < n then -1 else 1

end Go.Sx.M
end

section
/-
  Plain mathematics for words: bit by bit of two words of 64 bits. No program.
-/
namespace Go.Sx.M

theorem bitAt_and (a b c d : BitVec 64) (k : Nat) : bitAt (a &&& c) (b &&& d) k = (bitAt a b k && bitAt c d k) := by
  unfold bitAt; split <;> rw [BitVec.getMsbD_and]

theorem bitAt_xor (a b c d : BitVec 64) (k : Nat) : bitAt (a ^^^ c) (b ^^^ d) k = (bitAt a b k ^^ bitAt c d k) := by
  unfold bitAt; split <;> rw [BitVec.getMsbD_xor]

theorem bitAt_zero (k : Nat) : bitAt 0#64 0#64 k = false := by
  unfold bitAt; split <;> simp

theorem pair_beq {a b c d : BitVec 64} : (a == c && b == d) = true ↔ ∀ k, k < 128 → bitAt a b k = bitAt c d k := by
  rw [Bool.and_eq_true, beq_iff_eq, beq_iff_eq]
  exact ⟨fun ⟨h1, h2⟩ k _ => by rw [h1, h2], fun h => bitAt_eq h⟩

/-- Does the word v w, with the mask m n, match a b? -/
def wmB (v w m n a b : BitVec 64) : Bool := a &&& m == v &&& m && b &&& n == w &&& n

theorem wmB_iff {v w m n a b : BitVec 64} : wmB v w m n a b = true ↔ ∀ k, k < 128 → bitAt m n k = true → bitAt v w k = bitAt a b k := by
  unfold wmB
  rw [pair_beq]
  refine ⟨fun h k hk hm => ?_, fun h k hk => ?_⟩
  · have := h k hk
    rw [bitAt_and, bitAt_and, hm] at this
    simpa using this.symm
  · rw [bitAt_and, bitAt_and]
    cases hm : bitAt m n k with
    | true => rw [h k hk hm]
    | false => simp

/-- Is there one that both match? -/
def wtB (v w m n c d p q : BitVec 64) : Bool := (v ^^^ c) &&& (m &&& p) == 0#64 && (w ^^^ d) &&& (n &&& q) == 0#64

theorem wtB_iff {v w m n c d p q : BitVec 64} : wtB v w m n c d p q = true ↔ ∀ k, k < 128 → bitAt m n k = true → bitAt p q k = true → bitAt v w k = bitAt c d k := by
  unfold wtB
  rw [pair_beq]
  refine ⟨fun h k hk h1 h2 => ?_, fun h k hk => ?_⟩
  · have := h k hk
    rw [bitAt_and, bitAt_and, bitAt_xor, bitAt_zero, h1, h2] at this
    revert this
    cases bitAt v w k <;> cases bitAt c d k <;> simp
  · rw [bitAt_and, bitAt_and, bitAt_xor, bitAt_zero]
    cases h1 : bitAt m n k with
    | false => simp
    | true => cases h2 : bitAt p q k with
      | false => simp
      | true => rw [h k hk h1 h2]; simp

end Go.Sx.M
end

section
/-
  Plain mathematics: entries, rows of entries: which one is the first, which the best one. No program.
-/
namespace Go.Sx.M

/-- An entry: a word's value and mask, its length, its action. -/
structure En where
  v : BitVec 64
  w : BitVec 64
  m : BitVec 64
  n : BitVec 64
  len : Int
  act : Int
  deriving DecidableEq, Inhabited

/-- Does its word match? -/
def mtE (x : En) (a b : BitVec 64) : Bool := wmB x.v x.w x.m x.n a b

/-- Is there an address that both match? -/
def meE (x y : En) : Bool := wtB x.v x.w x.m x.n y.v y.w y.m y.n

/-- Must the one stand above the other one? -/
def abE (x y : En) : Bool := decide (x.len > y.len) && meE x y

/-- Element k of a row. -/
def at' {T : Type} [Inhabited T] (l : List T) (k : Nat) : T := l.getD k default

theorem at_get {T : Type} [Inhabited T] {l : List T} {k : Nat} (h : k < l.length) : l[k]? = some (at' l k) := by
  unfold at'; rw [List.getD_eq_getElem?_getD, List.getElem?_eq_getElem h]; rfl

theorem at_mem {T : Type} [Inhabited T] {l : List T} {k : Nat} (h : k < l.length) : at' l k ∈ l := List.mem_of_getElem? (at_get h)

theorem mem_at {T : Type} [Inhabited T] {l : List T} {x : T} (h : x ∈ l) : ∃ k, k < l.length ∧ at' l k = x := by
  obtain ⟨k, hk⟩ := List.mem_iff_getElem?.1 h
  have hl := (List.getElem?_eq_some_iff.1 hk).1
  exact ⟨k, hl, by rw [at_get hl] at hk; exact Option.some_inj.1 hk⟩

/-- The first one from k on, n of them looked at; -1: there is none. -/
def fsG (p : En → Bool) (l : List En) : Nat → Nat → Int
  | 0, _ => -1
  | n + 1, k => if p (at' l k) then (k : Int) else fsG p l n (k + 1)

/-- The first one that matches; -1: there is none. -/
def fsI (l : List En) (a b : BitVec 64) : Int := fsG (fun x => mtE x a b) l l.length 0

theorem fsG_spec (p : En → Bool) (l : List En) : ∀ n k, (fsG p l n k = -1 ∧ ∀ j, k ≤ j → j < k + n → p (at' l j) = false) ∨
    ∃ i : Nat, fsG p l n k = i ∧ k ≤ i ∧ i < k + n ∧ p (at' l i) = true ∧ ∀ j, k ≤ j → j < i → p (at' l j) = false
  | 0, k => .inl ⟨rfl, fun j h1 h2 => by omega⟩
  | n + 1, k => by
    unfold fsG
    cases hp : p (at' l k) with
    | true => right; exact ⟨k, by simp, Nat.le_refl _, by omega, hp, fun j h1 h2 => by omega⟩
    | false =>
      simp only [Bool.false_eq_true, if_false]
      rcases fsG_spec p l n (k + 1) with ⟨h1, h2⟩ | ⟨i, h1, h2, h3, h4, h5⟩
      · left
        refine ⟨h1, fun j h3 h4 => ?_⟩
        rcases Nat.lt_or_eq_of_le h3 with h | rfl
        · exact h2 j h (by omega)
        · exact hp
      · right
        refine ⟨i, h1, by omega, by omega, h4, fun j h6 h7 => ?_⟩
        rcases Nat.lt_or_eq_of_le h6 with h | rfl
        · exact h5 j h h7
        · exact hp

/-- It is the first one that matches, or there is none. -/
def FirstAt (l : List En) (a b : BitVec 64) (r : Int) : Prop :=
  (r = -1 ∧ ∀ j, j < l.length → mtE (at' l j) a b = false) ∨ ∃ i : Nat, r = i ∧ i < l.length ∧ mtE (at' l i) a b = true ∧ ∀ j, j < i → mtE (at' l j) a b = false

theorem fsI_spec (l : List En) (a b : BitVec 64) : FirstAt l a b (fsI l a b) := by
  rcases fsG_spec (fun x => mtE x a b) l l.length 0 with ⟨h1, h2⟩ | ⟨i, h1, h2, h3, h4, h5⟩
  · exact .inl ⟨h1, fun j hj => h2 j (by omega) (by omega)⟩
  · exact .inr ⟨i, h1, by omega, h4, fun j hj => h5 j (by omega) hj⟩

theorem FirstAt.uniq {l : List En} {a b : BitVec 64} {r s : Int} (h : FirstAt l a b r) (h' : FirstAt l a b s) : r = s := by
  rcases h with ⟨rfl, h⟩ | ⟨i, rfl, hi, h1, h2⟩ <;> rcases h' with ⟨rfl, g⟩ | ⟨k, rfl, hk, g1, g2⟩
  · rfl
  · rw [h k hk] at g1; cases g1
  · rw [g i hi] at h1; cases h1
  · rcases Nat.lt_trichotomy i k with h | h | h
    · rw [g2 i h] at h1; cases h1
    · rw [h]
    · rw [h2 k h] at g1; cases g1

/-- The best one of the last n; -1: none matches. -/
def bsG (l : List En) (a b : BitVec 64) : Nat → Int
  | 0 => -1
  | n + 1 => if mtE (at' l (l.length - 1 - n)) a b && (decide (bsG l a b n < 0) || decide ((at' l (l.length - 1 - n)).len ≥ (at' l (bsG l a b n).toNat).len)) then ((l.length - 1 - n : Nat) : Int) else bsG l a b n

/-- The best one; -1: none matches. -/
def bsI (l : List En) (a b : BitVec 64) : Int := bsG l a b l.length

/-- Of those from k on it is the best one, or none matches. -/
def BestFrom (l : List En) (a b : BitVec 64) (k : Nat) (r : Int) : Prop :=
  (r = -1 ∧ ∀ j, k ≤ j → j < l.length → mtE (at' l j) a b = false) ∨
  ∃ i : Nat, r = i ∧ k ≤ i ∧ i < l.length ∧ mtE (at' l i) a b = true ∧ ∀ j, k ≤ j → j < l.length → mtE (at' l j) a b = true → (at' l j).len ≤ (at' l i).len ∧ (j < i → (at' l j).len < (at' l i).len)

theorem bsG_spec (l : List En) (a b : BitVec 64) : ∀ n, n ≤ l.length → BestFrom l a b (l.length - n) (bsG l a b n)
  | 0, _ => .inl ⟨rfl, fun j h1 h2 => by omega⟩
  | n + 1, hn => by
    have ih := bsG_spec l a b n (by omega)
    generalize hr : bsG l a b n = r at ih
    have e1 : l.length - (n + 1) = l.length - 1 - n := by omega
    have e2 : l.length - n = (l.length - 1 - n) + 1 := by omega
    rw [e2] at ih
    rw [e1]
    unfold bsG
    rw [hr]
    generalize hk : l.length - 1 - n = k at *
    have hkl : k < l.length := by omega
    cases hm : mtE (at' l k) a b with
    | false =>
      simp only [Bool.false_and, Bool.false_eq_true, if_false]
      rcases ih with ⟨h1, h2⟩ | ⟨i, h1, h2, h3, h4, h5⟩
      · left
        refine ⟨h1, fun j h3 h4 => ?_⟩
        rcases Nat.lt_or_eq_of_le h3 with h | rfl
        · exact h2 j h h4
        · exact hm
      · right
        refine ⟨i, h1, by omega, h3, h4, fun j h6 h7 h8 => ?_⟩
        rcases Nat.lt_or_eq_of_le h6 with h | rfl
        · exact h5 j h h7 h8
        · rw [hm] at h8; cases h8
    | true =>
      rcases ih with ⟨rfl, h2⟩ | ⟨i, rfl, h2, h3, h4, h5⟩
      · right
        refine ⟨k, by simp, Nat.le_refl _, hkl, hm, fun j h6 h7 h8 => ?_⟩
        rcases Nat.lt_or_eq_of_le h6 with h | rfl
        · rw [h2 j h h7] at h8; cases h8
        · exact ⟨Int.le_refl _, fun h => by omega⟩
      · have e3 : ((i : Int)).toNat = i := by omega
        rw [e3, show decide ((i : Int) < 0) = false from by simp]
        simp only [Bool.true_and, Bool.false_or]
        by_cases hl : (at' l k).len ≥ (at' l i).len
        · rw [if_pos (by simpa using hl)]
          right
          refine ⟨k, rfl, Nat.le_refl _, hkl, hm, fun j h6 h7 h8 => ?_⟩
          rcases Nat.lt_or_eq_of_le h6 with h | rfl
          · have := (h5 j h h7 h8).1
            exact ⟨by omega, fun h' => by omega⟩
          · exact ⟨Int.le_refl _, fun h => by omega⟩
        · rw [if_neg (by simpa using hl)]
          right
          refine ⟨i, rfl, by omega, h3, h4, fun j h6 h7 h8 => ?_⟩
          rcases Nat.lt_or_eq_of_le h6 with h | rfl
          · exact h5 j h h7 h8
          · exact ⟨by omega, fun _ => by omega⟩

theorem bsI_spec (l : List En) (a b : BitVec 64) : BestFrom l a b 0 (bsI l a b) := by
  have := bsG_spec l a b l.length (Nat.le_refl _)
  rwa [Nat.sub_self] at this

theorem BestFrom.uniq {l : List En} {a b : BitVec 64} {r s : Int} (h : BestFrom l a b 0 r) (h' : BestFrom l a b 0 s) : r = s := by
  rcases h with ⟨rfl, h⟩ | ⟨i, rfl, _, hi, h1, h2⟩ <;> rcases h' with ⟨rfl, g⟩ | ⟨k, rfl, _, hk, g1, g2⟩
  · rfl
  · rw [h k (by omega) hk] at g1; cases g1
  · rw [g i (by omega) hi] at h1; cases h1
  · have a1 := h2 k (by omega) hk g1
    have a2 := g2 i (by omega) hi h1
    rcases Nat.lt_trichotomy i k with h | h | h
    · have := a2.2 h; omega
    · rw [h]
    · have := a1.2 h; omega

/-- What is to be done: the best one's action; 0: none matches. -/
def tlI (l : List En) (a b : BitVec 64) : Int := if bsI l a b < 0 then 0 else (at' l (bsI l a b).toNat).act

/-- No one stands behind one that it must stand above. -/
def orE (l : List En) : Bool := decide (∀ i, i < l.length → ∀ k, k < l.length → i < k → abE (at' l k) (at' l i) = false)

theorem orE_iff {l : List En} : orE l = true ↔ ∀ i, i < l.length → ∀ k, k < l.length → i < k → abE (at' l k) (at' l i) = false := by
  unfold orE; rw [decide_eq_true_eq]

/-- Of an ordered row the first one that matches is the best one. -/
theorem first_best {l : List En} (h : orE l = true) (a b : BitVec 64) : fsI l a b = bsI l a b := by
  rw [orE_iff] at h
  refine BestFrom.uniq ?_ (bsI_spec l a b)
  rcases fsI_spec l a b with ⟨h1, h2⟩ | ⟨i, h1, hi, h2, h3⟩
  · exact .inl ⟨h1, fun j _ hj => h2 j hj⟩
  · refine .inr ⟨i, h1, by omega, hi, h2, fun j _ hj hm => ?_⟩
    rcases Nat.lt_trichotomy j i with hlt | rfl | hgt
    · rw [h3 j hlt] at hm; cases hm
    · exact ⟨Int.le_refl _, fun h => by omega⟩
    · have ho := h i hi j hj hgt
      have hme : meE (at' l j) (at' l i) = true := by
        unfold meE
        rw [wtB_iff]
        intro k hk k1 k2
        exact (wmB_iff.1 hm k hk k1).trans (wmB_iff.1 h2 k hk k2).symm
      unfold abE at ho
      rw [hme, Bool.and_true, decide_eq_false_iff_not] at ho
      exact ⟨by omega, fun h => by omega⟩

end Go.Sx.M
end

section
/-
  Plain mathematics: the order of entries, sorted rows. No program.
-/
namespace Go.Sx.M

/-- May an entry be? -/
def rtE (x : En) : Bool := (x.v &&& x.m == x.v && x.w &&& x.n == x.w) && (decide (x.len ≥ 0) && (decide (x.len ≤ 128) && (decide (x.act ≥ 1) && decide (x.act ≤ 255))))

/-- No less than 0. -/
def mx0 (n : Int) : Int := if 0 > n then 0 else n

def cmpZ (m n : Int) : Int := if m < n then -1 else if n < m then 1 else 0
def orZ (m n : Int) : Int := if m = 0 then n else m

/-- Which of two entries comes first: -1 the one, 1 the other one, 0: they are the same. -/
def cpE (x y : En) : Int := orZ (cmpZ y.len x.len) (orZ (cmpV (V x.v x.w) (V y.v y.w)) (orZ (cmpV (V x.m x.n) (V y.m y.n)) (cmpZ x.act y.act)))

end Go.Sx.M
end

section
/-
  Plain mathematics: rows of entries, looked at in their order: the best one; the least length; one behind another one. No program.
-/
namespace Go.Sx.M

/-- The best one of the first n, looked at in their order; -1: none matches. -/
def fbG (l : List En) (a b : BitVec 64) : Nat → Int
  | 0 => -1
  | n + 1 => if (decide (fbG l a b n < 0) || decide ((at' l n).len > (at' l (fbG l a b n).toNat).len)) && mtE (at' l n) a b then (n : Int) else fbG l a b n

theorem fbG_spec (l : List En) (a b : BitVec 64) : ∀ n, (fbG l a b n = -1 ∧ ∀ j, j < n → mtE (at' l j) a b = false) ∨
    ∃ i : Nat, fbG l a b n = i ∧ i < n ∧ mtE (at' l i) a b = true ∧ ∀ j, j < n → mtE (at' l j) a b = true → (at' l j).len ≤ (at' l i).len ∧ (j < i → (at' l j).len < (at' l i).len)
  | 0 => .inl ⟨rfl, fun j h => by omega⟩
  | n + 1 => by
    have ih := fbG_spec l a b n
    unfold fbG
    generalize fbG l a b n = r at ih
    cases hm : mtE (at' l n) a b with
    | false =>
      rw [Bool.and_false, if_neg (by simp)]
      rcases ih with ⟨h1, h2⟩ | ⟨i, h1, h2, h3, h4⟩
      · exact .inl ⟨h1, fun j hj => by
          rcases Nat.lt_or_eq_of_le (Nat.le_of_lt_succ hj) with h | rfl
          · exact h2 j h
          · exact hm⟩
      · exact .inr ⟨i, h1, by omega, h3, fun j hj hj2 => by
          rcases Nat.lt_or_eq_of_le (Nat.le_of_lt_succ hj) with h | rfl
          · exact h4 j h hj2
          · rw [hm] at hj2; cases hj2⟩
    | true =>
      rw [Bool.and_true]
      rcases ih with ⟨rfl, h2⟩ | ⟨i, rfl, h2, h3, h4⟩
      · rw [if_pos (by simp)]
        exact .inr ⟨n, rfl, by omega, hm, fun j hj hj2 => by
          rcases Nat.lt_or_eq_of_le (Nat.le_of_lt_succ hj) with h | rfl
          · rw [h2 j h] at hj2; cases hj2
          · exact ⟨Int.le_refl _, fun h => by omega⟩⟩
      · have e3 : ((i : Int)).toNat = i := by omega
        rw [e3, show decide ((i : Int) < 0) = false from by simp, Bool.false_or]
        by_cases hl : (at' l n).len > (at' l i).len
        · rw [if_pos (by simpa using hl)]
          exact .inr ⟨n, rfl, by omega, hm, fun j hj hj2 => by
            rcases Nat.lt_or_eq_of_le (Nat.le_of_lt_succ hj) with h | rfl
            · have := (h4 j h hj2).1
              exact ⟨by omega, fun _ => by omega⟩
            · exact ⟨Int.le_refl _, fun h => by omega⟩⟩
        · rw [if_neg (by simpa using hl)]
          exact .inr ⟨i, rfl, by omega, h3, fun j hj hj2 => by
            rcases Nat.lt_or_eq_of_le (Nat.le_of_lt_succ hj) with h | rfl
            · exact h4 j h hj2
            · exact ⟨by omega, fun h => by omega⟩⟩

theorem fbG_all (l : List En) (a b : BitVec 64) : fbG l a b l.length = bsI l a b := by
  refine BestFrom.uniq ?_ (bsI_spec l a b)
  rcases fbG_spec l a b l.length with ⟨h1, h2⟩ | ⟨i, h1, h2, h3, h4⟩
  · exact .inl ⟨h1, fun j _ hj => h2 j hj⟩
  · exact .inr ⟨i, h1, by omega, h2, h3, fun j _ hj hm => h4 j hj hm⟩

/-- None of the first n stands behind one that it must stand above. -/
def OrTo (l : List En) (n : Nat) : Prop := ∀ k, k < n → ∀ i, i < k → abE (at' l k) (at' l i) = false

theorem OrTo.all {l : List En} : orE l = true ↔ OrTo l l.length := by
  rw [orE_iff]
  exact ⟨fun h k hk i hi => h i (by omega) k hk hi, fun h i _ k hk hik => h k hk i hik⟩

theorem OrTo.next {l : List En} {n : Nat} (h : OrTo l n) (hs : ∀ i, i < n → abE (at' l n) (at' l i) = false) : OrTo l (n + 1) := fun k hk i hi => by
  rcases Nat.lt_or_eq_of_le (Nat.le_of_lt_succ hk) with h' | rfl
  · exact h k h' i hi
  · exact hs i hi

end Go.Sx.M
end

section
/-
  Slots, writes: plain mathematics.
-/
namespace Go.Sx.M

/-- A slot: is it valid; its entry. -/
structure Sl where
  ok : Bool
  e : En
  deriving DecidableEq, Inhabited

/-- A write: of which slot; what it becomes. -/
structure Wr where
  p : Int
  s : Sl
  deriving DecidableEq, Inhabited

/-- An empty one. -/
def zS : Sl := ⟨false, ⟨0#64, 0#64, 0#64, 0#64, 0, 0⟩⟩

/-- Does it match an address? -/
def mtS (a b : BitVec 64) (x : Sl) : Bool := x.ok && mtE x.e a b

/-- May a write be, of n slots? -/
def inS (p n : Int) : Bool := decide (0 ≤ p) && decide (p < n)
def rtS (x : Sl) : Bool := decide (x = zS) || (x.ok && rtE x.e)
def mayS (x : Wr) (n : Int) : Bool := inS x.p n && rtS x.s

theorem inS_iff {p n : Int} : inS p n = true ↔ 0 ≤ p ∧ p < n := by
  unfold inS
  rw [Bool.and_eq_true, decide_eq_true_eq, decide_eq_true_eq]

theorem inS_not {p n : Int} (h : ¬ (0 ≤ p ∧ p < n)) : inS p n = false := by
  cases e : inS p n with
  | false => rfl
  | true => exact absurd (inS_iff.1 e) h

theorem mayS_not {x : Wr} {n : Int} (h : ¬ (0 ≤ x.p ∧ x.p < n)) : mayS x n = false := by
  unfold mayS
  rw [inS_not h, Bool.false_and]

theorem mayS_in {x : Wr} {n : Int} (h : 0 ≤ x.p ∧ x.p < n) : mayS x n = rtS x.s := by
  unfold mayS
  rw [inS_iff.2 h, Bool.true_and]

theorem mayS_is {x : Wr} {n : Int} (h : mayS x n = true) : 0 ≤ x.p ∧ x.p < n := by
  unfold mayS at h
  rw [Bool.and_eq_true] at h
  exact inS_iff.1 h.1

theorem eq_zS {o : Bool} {v w m n : BitVec 64} {k j : Int} : (o == false && (v == BitVec.ofInt 64 0 && w == BitVec.ofInt 64 0 && (m == BitVec.ofInt 64 0 && n == BitVec.ofInt 64 0) && (k == 0 && j == 0))) = decide ((⟨o, ⟨v, w, m, n, k, j⟩⟩ : Sl) = zS) := by
  have e : BitVec.ofInt 64 0 = 0#64 := rfl
  rw [Bool.eq_iff_iff, decide_eq_true_eq, e]
  unfold zS
  simp only [Bool.and_eq_true, beq_iff_eq, Sl.mk.injEq, En.mk.injEq]
  constructor
  · rintro ⟨a, ⟨⟨b, c⟩, d, e⟩, f, g⟩
    exact ⟨a, b, c, d, e, f, g⟩
  · rintro ⟨a, b, c, d, e, f, g⟩
    exact ⟨a, ⟨⟨b, c⟩, d, e⟩, f, g⟩

/-- Two slots, cell by cell. -/
theorem eq_Sl {x y : Sl} : (x.ok == y.ok && (x.e.v == y.e.v && x.e.w == y.e.w && (x.e.m == y.e.m && x.e.n == y.e.n) && (x.e.len == y.e.len && x.e.act == y.e.act))) = decide (x = y) := by
  obtain ⟨o, v, w, m, n, k, j⟩ := x
  obtain ⟨o', v', w', m', n', k', j'⟩ := y
  rw [Bool.eq_iff_iff, decide_eq_true_eq]
  simp only [Bool.and_eq_true, beq_iff_eq, Sl.mk.injEq, En.mk.injEq]
  constructor
  · rintro ⟨a, ⟨⟨b, c⟩, d, e⟩, f, g⟩
    exact ⟨a, b, c, d, e, f, g⟩
  · rintro ⟨a, b, c, d, e, f, g⟩
    exact ⟨a, ⟨⟨b, c⟩, d, e⟩, f, g⟩

/-- Slots behind a write, behind writes. -/
def apS (l : List Sl) (x : Wr) : List Sl := if mayS x l.length then l.set x.p.toNat x.s else l
def apL (l : List Sl) (w : List Wr) : List Sl := w.foldl apS l

theorem apS_length (l : List Sl) (x : Wr) : (apS l x).length = l.length := by unfold apS; split <;> simp

theorem apL_length : ∀ (w : List Wr) (l : List Sl), (apL l w).length = l.length
  | [], _ => rfl
  | x :: w, l => by
    have : apL l (x :: w) = apL (apS l x) w := rfl
    rw [this, apL_length w, apS_length]

theorem apL_nil (l : List Sl) : apL l [] = l := rfl

theorem apL_snoc (l : List Sl) (w : List Wr) (x : Wr) : apL l (w ++ [x]) = apS (apL l w) x := by
  unfold apL
  rw [List.foldl_append]; rfl

theorem apL_one (l : List Sl) (x : Wr) : apL l [x] = apS l x := rfl

/-- The entries of the valid ones. -/
def ensS (l : List Sl) : List En := (l.filter Sl.ok).map Sl.e

theorem ensS_length (l : List Sl) : (ensS l).length ≤ l.length := by
  unfold ensS
  rw [List.length_map]
  exact List.length_filter_le _ _

theorem ensS_snoc (l : List Sl) (x : Sl) : ensS (l ++ [x]) = if x.ok then ensS l ++ [x.e] else ensS l := by
  unfold ensS
  rw [List.filter_append, List.map_append, List.filter_cons, List.filter_nil]
  split
  · rfl
  · rw [List.map_nil, List.append_nil]

/-- The first slot that matches, or -1. -/
def fnS (l : List Sl) (a b : BitVec 64) : Int := match l.findIdx? (mtS a b) with | some k => k | none => -1

def FoundS (l : List Sl) (a b : BitVec 64) (r : Int) : Prop :=
  (r = -1 ∧ ∀ j, j < l.length → mtS a b (at' l j) = false) ∨ ∃ k : Nat, r = k ∧ k < l.length ∧ mtS a b (at' l k) = true ∧ ∀ j, j < k → mtS a b (at' l j) = false

theorem at_eq {T : Type} [Inhabited T] {l : List T} {k : Nat} (h : k < l.length) : at' l k = l[k] := by
  have := at_get h
  rw [List.getElem?_eq_getElem h] at this
  exact (Option.some_inj.1 this).symm

theorem fnS_spec (l : List Sl) (a b : BitVec 64) : FoundS l a b (fnS l a b) := by
  unfold fnS
  cases h : l.findIdx? (mtS a b) with
  | none =>
    rw [List.findIdx?_eq_none_iff] at h
    exact .inl ⟨rfl, fun j hj => h _ (at_mem hj)⟩
  | some k =>
    rw [List.findIdx?_eq_some_iff_getElem] at h
    obtain ⟨hk, h1, h2⟩ := h
    refine .inr ⟨k, rfl, hk, by rw [at_eq hk]; exact h1, fun j hj => ?_⟩
    rw [at_eq (Nat.lt_trans hj hk)]
    have := h2 j hj
    simpa using this

theorem FoundS.uniq {l : List Sl} {a b : BitVec 64} {r s : Int} (h : FoundS l a b r) (h' : FoundS l a b s) : r = s := by
  rcases h with ⟨rfl, h⟩ | ⟨k, rfl, hk, h1, h2⟩ <;> rcases h' with ⟨rfl, h'⟩ | ⟨k', rfl, hk', h1', h2'⟩
  · rfl
  · rw [h k' hk'] at h1'; cases h1'
  · rw [h' k hk] at h1; cases h1
  · rcases Nat.lt_trichotomy k k' with hlt | rfl | hlt
    · rw [h2' k hlt] at h1; cases h1
    · rfl
    · rw [h2 k' hlt] at h1'; cases h1'

/-- What it tells. -/
def tlS (l : List Sl) (a b : BitVec 64) : Int := if fnS l a b < 0 then 0 else (at' l (fnS l a b).toNat).e.act

theorem tlS_find (l : List Sl) (a b : BitVec 64) : tlS l a b = match l.find? (mtS a b) with | some x => x.e.act | none => 0 := by
  unfold tlS
  rcases fnS_spec l a b with ⟨h, hn⟩ | ⟨k, h, hk, h1, h2⟩
  · have : l.find? (mtS a b) = none := List.find?_eq_none.2 fun x hx => by
      obtain ⟨j, hj, rfl⟩ := mem_at hx
      rw [hn j hj]; decide
    rw [this, h]; rfl
  · have : l.find? (mtS a b) = some (at' l k) := by
      rw [List.find?_eq_some_iff_getElem]
      refine ⟨h1, k, hk, (at_eq hk).symm, fun j hj => ?_⟩
      rw [← at_eq (Nat.lt_trans hj hk), h2 j hj]; rfl
    rw [this, h, if_neg (by omega)]; rfl

/-- The entries' first one. -/
theorem first_find (l : List En) (a b : BitVec 64) : (if fsI l a b < 0 then 0 else (at' l (fsI l a b).toNat).act) = match l.find? (fun x => mtE x a b) with | some x => x.act | none => 0 := by
  rcases fsI_spec l a b with ⟨h, hn⟩ | ⟨k, h, hk, h1, h2⟩
  · have : l.find? (fun x => mtE x a b) = none := List.find?_eq_none.2 fun x hx => by
      obtain ⟨j, hj, rfl⟩ := mem_at hx
      rw [hn j hj]; decide
    rw [this, h]; rfl
  · have : l.find? (fun x => mtE x a b) = some (at' l k) := by
      rw [List.find?_eq_some_iff_getElem]
      refine ⟨h1, k, hk, (at_eq hk).symm, fun j hj => ?_⟩
      rw [← at_eq (Nat.lt_trans hj hk), h2 j hj]; rfl
    rw [this, h, if_neg (by omega)]; rfl

theorem tlS_first (l : List Sl) (a b : BitVec 64) : tlS l a b = if fsI (ensS l) a b < 0 then 0 else (at' (ensS l) (fsI (ensS l) a b).toNat).act := by
  rw [tlS_find, first_find]
  induction l with
  | nil => rfl
  | cons x l ih =>
    rw [List.find?_cons]
    unfold ensS at ih ⊢
    rw [List.filter_cons]
    unfold mtS at ih ⊢
    cases hx : x.ok with
    | false => simpa using ih
    | true =>
      simp only [Bool.true_and, if_true, List.map_cons, List.find?_cons]
      cases hm : mtE x.e a b with
      | true => rfl
      | false => exact ih

/-- P8.3. -/
theorem tlS_ordered {l : List Sl} (h : orE (ensS l) = true) (a b : BitVec 64) : tlS l a b = tlI (ensS l) a b := by
  rw [tlS_first, first_best h]; rfl

/-- How many are free. -/
def frS (l : List Sl) : Int := (l.length : Int) - (ensS l).length

theorem frS_snoc (l : List Sl) (x : Sl) : frS (l ++ [x]) = if x.ok then frS l else frS l + 1 := by
  unfold frS
  rw [ensS_snoc, List.length_append, List.length_singleton]
  split
  · rw [List.length_append, List.length_singleton]; omega
  · omega

/-- A write changes one slot. -/
theorem at_set {T : Type} [Inhabited T] (l : List T) (k : Nat) (x : T) (j : Nat) : at' (l.set k x) j = if k = j ∧ j < l.length then x else at' l j := by
  unfold at'
  rw [List.getD_eq_getElem?_getD, List.getD_eq_getElem?_getD]
  by_cases h : k = j
  · subst h
    by_cases hk : k < l.length
    · rw [List.getElem?_set_self hk, if_pos ⟨rfl, hk⟩]; rfl
    · rw [List.getElem?_eq_none (by simpa using hk), List.getElem?_eq_none (by simpa using hk), if_neg fun h => hk h.2]
  · rw [List.getElem?_set_ne h, if_neg fun g => h g.1]

theorem tlS_other {l : List Sl} {k : Nat} {x : Sl} {a b : BitVec 64} (h0 : mtS a b (at' l k) = false) (h1 : mtS a b x = false) : tlS (l.set k x) a b = tlS l a b := by
  have hm : ∀ j, j < l.length → mtS a b (at' (l.set k x) j) = mtS a b (at' l j) := fun j hj => by
    rw [at_set]
    split
    · rename_i h; obtain ⟨rfl, _⟩ := h; rw [h0, h1]
    · rfl
  have hf : FoundS (l.set k x) a b (fnS l a b) := by
    rcases fnS_spec l a b with ⟨h, hn⟩ | ⟨i, h, hi, h2, h3⟩
    · exact .inl ⟨h, fun j hj => by rw [List.length_set] at hj; rw [hm j hj]; exact hn j hj⟩
    · exact .inr ⟨i, h, by rw [List.length_set]; exact hi, by rw [hm i hi]; exact h2, fun j hj => by rw [hm j (Nat.lt_trans hj hi)]; exact h3 j hj⟩
  have he := (fnS_spec (l.set k x) a b).uniq hf
  unfold tlS
  rw [he]
  split
  · rfl
  · rename_i hp
    rcases fnS_spec l a b with ⟨h, _⟩ | ⟨i, h, hi, h2, _⟩
    · omega
    · rw [h, show ((i : Int)).toNat = i from rfl, at_set, if_neg]
      rintro ⟨rfl, _⟩
      rw [h0] at h2; cases h2

/-- Writes done twice make what they made once. -/
theorem apS_at (l : List Sl) (x : Wr) (j : Nat) (hj : j < l.length) : at' (apS l x) j = if mayS x l.length = true ∧ x.p.toNat = j then x.s else at' l j := by
  unfold apS
  by_cases hm : mayS x l.length = true
  · rw [if_pos hm, at_set]
    by_cases e : x.p.toNat = j
    · rw [if_pos ⟨e, hj⟩, if_pos ⟨hm, e⟩]
    · rw [if_neg fun h => e h.1, if_neg fun h => e h.2]
  · rw [if_neg hm, if_neg fun h => hm h.1]

theorem ext_at {l m : List Sl} (h : l.length = m.length) (hj : ∀ j, j < l.length → at' l j = at' m j) : l = m := by
  apply List.ext_getElem h
  intro j h1 h2
  rw [← at_eq h1, ← at_eq h2]
  exact hj j h1

/-- Slots that agree, but for those that are written, agree behind the writes. -/
theorem apL_agree : ∀ (w : List Wr) (l m : List Sl), l.length = m.length → (∀ j, j < l.length → (at' l j = at' m j) ∨ ∃ x ∈ w, mayS x l.length = true ∧ x.p.toNat = j) → apL l w = apL m w
  | [], l, m, h, hj => ext_at h fun j hlt => (hj j hlt).elim id fun ⟨_, h, _⟩ => by cases h
  | x :: w, l, m, h, hj => by
    show apL (apS l x) w = apL (apS m x) w
    refine apL_agree w _ _ (by rw [apS_length, apS_length, h]) fun j hlt => ?_
    rw [apS_length] at hlt ⊢
    rw [apS_at l x j hlt, apS_at m x j (h ▸ hlt), ← h]
    split
    · exact .inl rfl
    · rename_i hn
      rcases hj j hlt with e | ⟨y, hy, h1, h2⟩
      · exact .inl e
      · rcases List.mem_cons.1 hy with rfl | hy
        · exact absurd ⟨h1, h2⟩ hn
        · exact .inr ⟨y, hy, h1, h2⟩

theorem apL_kept : ∀ (w : List Wr) (l : List Sl) (j : Nat), j < l.length → at' (apL l w) j = at' l j ∨ ∃ x ∈ w, mayS x l.length = true ∧ x.p.toNat = j
  | [], _, _, _ => .inl rfl
  | x :: w, l, j, hj => by
    have e : apL l (x :: w) = apL (apS l x) w := rfl
    rw [e]
    rcases apL_kept w (apS l x) j (by rw [apS_length]; exact hj) with h | ⟨y, hy, h1, h2⟩
    · rw [h, apS_at l x j hj]
      split
      · rename_i hm; exact .inr ⟨x, List.mem_cons_self, hm.1, hm.2⟩
      · exact .inl rfl
    · rw [apS_length] at h1
      exact .inr ⟨y, List.mem_cons_of_mem _ hy, h1, h2⟩

theorem apL_twice (l : List Sl) (w : List Wr) : apL (apL l w) w = apL l w :=
  apL_agree w _ _ (apL_length w l) fun j hj => by
    rw [apL_length] at hj ⊢
    exact apL_kept w l j hj

/-- How many of the writes may be. -/
def cnL (n : Int) (w : List Wr) : Int := ((w.filter fun x => mayS x n).length : Int)

theorem cnL_nil (n : Int) : cnL n [] = 0 := rfl

theorem cnL_snoc (n : Int) (w : List Wr) (x : Wr) : cnL n (w ++ [x]) = if mayS x n then cnL n w + 1 else cnL n w := by
  unfold cnL
  rw [List.filter_append, List.filter_cons, List.filter_nil]
  split
  · rw [List.length_append, List.length_singleton]; omega
  · rw [List.append_nil]

theorem cnL_le (n : Int) (w : List Wr) : 0 ≤ cnL n w ∧ cnL n w ≤ w.length := by
  unfold cnL
  have := List.length_filter_le (fun x => mayS x n) w
  omega

/-- The slots of a new bank. -/
def nwS (n : Int) : List Sl := List.replicate n.toNat zS
theorem nwS_length {n : Int} (h : 0 ≤ n) : ((nwS n).length : Int) = n := by
  unfold nwS
  rw [List.length_replicate]; omega

/-- The slot that is read; errors. -/
def rdS (l : List Sl) (k : Int) : Sl := if inS k l.length then at' l k.toNat else zS
def reS (l : List Sl) (k : Int) : Int := if inS k l.length then 0 else 5
def erS (x : Wr) (n : Int) : Int := if inS x.p n then (if rtS x.s then 0 else 1) else 5
def cnS (c : Int) (x : Wr) (n : Int) : Int := if mayS x n then c + 1 else c

theorem erS_out {x : Wr} {n : Int} (h : ¬ (0 ≤ x.p ∧ x.p < n)) : erS x n = 5 := by
  unfold erS
  rw [inS_not h]; rfl

theorem erS_bad {x : Wr} {n : Int} (h : 0 ≤ x.p ∧ x.p < n) (hm : mayS x n = false) : erS x n = 1 := by
  rw [mayS_in h] at hm
  unfold erS
  rw [inS_iff.2 h, hm]; rfl

theorem erS_ok {x : Wr} {n : Int} (hm : mayS x n = true) : erS x n = 0 := by
  have h := mayS_is hm
  rw [mayS_in h] at hm
  unfold erS
  rw [inS_iff.2 h, hm]; rfl

theorem cnS_cnL (n : Int) (w : List Wr) (x : Wr) : cnS (cnL n w) x n = cnL n (w ++ [x]) := by
  rw [cnL_snoc]; rfl

theorem rdS_out {l : List Sl} {k : Int} (h : ¬ (0 ≤ k ∧ k < l.length)) : rdS l k = zS ∧ reS l k = 5 := by
  unfold rdS reS
  rw [inS_not h]
  exact ⟨rfl, rfl⟩

theorem rdS_in {l : List Sl} {k : Int} (h : 0 ≤ k ∧ k < l.length) : rdS l k = at' l k.toNat ∧ reS l k = 0 := by
  unfold rdS reS
  rw [inS_iff.2 h]
  exact ⟨rfl, rfl⟩

theorem nwS_len {n : Int} : (nwS n).length = n.toNat := by unfold nwS; rw [List.length_replicate]

theorem fnS_one {y : Sl} {a b : BitVec 64} (h : decide (fnS [y] a b ≥ 0) = false) : mtS a b y = false := by
  rcases fnS_spec [y] a b with ⟨_, hn⟩ | ⟨k, h1, _⟩
  · exact hn 0 (by simp)
  · rw [h1] at h; have := of_decide_eq_false h; omega

theorem apS_tell {l : List Sl} {x : Wr} (hm : mayS x l.length = true) {a b : BitVec 64} (h1 : decide (fnS [at' l x.p.toNat] a b ≥ 0) = false) (h2 : decide (fnS [x.s] a b ≥ 0) = false) : tlS (apS l x) a b = tlS l a b := by
  unfold apS
  rw [if_pos hm]
  exact tlS_other (fnS_one h1) (fnS_one h2)

theorem apS_is {l : List Sl} {x : Wr} (hm : mayS x l.length = true) : at' (apS l x) x.p.toNat = x.s := by
  have := mayS_is hm
  rw [apS_at l x _ (by omega), if_pos ⟨hm, rfl⟩]

theorem apS_not {l : List Sl} {x : Wr} {j : Nat} (hj : j < l.length) (h : x.p.toNat ≠ j) : at' (apS l x) j = at' l j := by
  rw [apS_at l x _ hj, if_neg fun g => h g.2]

end Go.Sx.M
end

