/-
  Plain mathematics: texts, digits, what is cut at a sign.
-/
import Derived.Test.YtkdcajibehpeaaaDoorSxP
import Derived.Test.YtkdcajibehpeaaaDoorM04
import Derived.Lib.ItoaNum
import Derived.Lib.Bytealg
import Derived.Lib.Join
namespace Go.Sx.M

/-- The digits of all bases. -/
def hexs : List UInt8 := [48, 49, 50, 51, 52, 53, 54, 55, 56, 57, 97, 98, 99, 100, 101, 102]

/-- The digit that a sign is, or -1. -/
def dgt (b : Nat) (u : UInt8) : Int := Lib.indexByte (hexs.take b) u

/-- Are all of them digits? -/
def okL (b : Nat) (l : List UInt8) : Bool := l.all fun u => decide (0 ≤ dgt b u)

/-- The number that digits are. -/
def valL (b : Nat) (l : List UInt8) : Int := l.foldl (fun v u => v * b + dgt b u) 0

theorem valL_snoc (b : Nat) (l : List UInt8) (u : UInt8) : valL b (l ++ [u]) = valL b l * b + dgt b u := by simp [valL]
theorem okL_snoc (b : Nat) (l : List UInt8) (u : UInt8) : okL b (l ++ [u]) = (okL b l && decide (0 ≤ dgt b u)) := by simp [okL]

/-- The number that digits are, or 0; are they one? -/
def valV (b : Nat) (l : List UInt8) : Int := if okL b l = true then valL b l else 0
def valB (b : Nat) (l : List UInt8) : Bool := okL b l && decide (l ≠ [])

/-- Is it a number, of at most m? -/
def numOK (l : List UInt8) (m : Int) : Bool := decide (l.length ≤ 9) && (!(decide (1 < l.length) && decide (l[0]? = some 48)) && (okL 10 l && (decide (l ≠ []) && decide (valL 10 l ≤ m))))

def numV (l : List UInt8) (m : Int) : Int := if numOK l m = true then valL 10 l else 0

/-- What is ahead of the first sign c, what is behind it, is there one? -/
def cutL (c : UInt8) : List UInt8 → List UInt8 × List UInt8 × Bool
  | [] => ([], [], false)
  | b :: l => if b = c then ([], l, true) else (b :: (cutL c l).1, (cutL c l).2)

/-- The number that n bits are. -/
def partV (f : Nat → Bool) : Nat → Nat
  | 0 => 0
  | n + 1 => 2 * partV f n + (f n).toNat

theorem partV_lt (f : Nat → Bool) : ∀ n, partV f n < 2 ^ n
  | 0 => by simp [partV]
  | n + 1 => by
    have := partV_lt f n
    rw [partV, Nat.pow_succ]
    have : (f n).toNat ≤ 1 := by cases f n <;> simp
    omega

theorem partV_bit (f : Nat → Bool) : ∀ n i, i < n → (partV f n).testBit (n - 1 - i) = f i
  | 0, i, h => by omega
  | n + 1, i, h => by
    rw [partV]
    rcases Nat.lt_or_eq_of_le (Nat.lt_succ_iff.1 h) with h1 | rfl
    · have e : n + 1 - 1 - i = (n - 1 - i) + 1 := by omega
      have h2 : (f n).toNat ≤ 1 := by cases f n <;> simp
      rw [e, Nat.testBit_succ, show (2 * partV f n + (f n).toNat) / 2 = partV f n from by omega]
      exact partV_bit f n i h1
    · rw [show i + 1 - 1 - i = 0 from by omega, Nat.testBit_zero]
      cases f i <;> simp

theorem partV_eq {f g : Nat → Bool} : ∀ n, (∀ i, i < n → f i = g i) → partV f n = partV g n
  | 0, _ => rfl
  | n + 1, h => by rw [partV, partV, partV_eq n fun i hi => h i (by omega), h n (by omega)]

theorem partV_of (n : Nat) : ∀ (v : Nat), v < 2 ^ n → partV (fun i => v.testBit (n - 1 - i)) n = v := by
  intro v hv
  apply Nat.eq_of_testBit_eq
  intro j
  by_cases hj : j < n
  · have := partV_bit (fun i => v.testBit (n - 1 - i)) n (n - 1 - j) (by omega)
    rw [show n - 1 - (n - 1 - j) = j from by omega] at this
    rw [this]
  · rw [Nat.testBit_lt_two_pow (Nat.lt_of_lt_of_le (partV_lt _ n) (Nat.pow_le_pow_right (by omega) (by omega))), Nat.testBit_lt_two_pow (Nat.lt_of_lt_of_le hv (Nat.pow_le_pow_right (by omega) (by omega)))]

/-- Bits of a number put in place of k of an address's. -/
def wbB (a b : BitVec 64) (o n v k i : Nat) : Bool := if o ≤ i ∧ i < o + k then v.testBit (n - 1 - (i - o)) else bitAt a b i
def wbX (a b : BitVec 64) (o n v k : Nat) : BitVec 64 := W (fun i => wbB a b o n v k i) 64
def wbY (a b : BitVec 64) (o n v k : Nat) : BitVec 64 := W (fun i => wbB a b o n v k (64 + i)) 64

theorem wb_bit (a b : BitVec 64) (o n v k : Nat) {i : Nat} (hi : i < 128) : bitAt (wbX a b o n v k) (wbY a b o n v k) i = wbB a b o n v k i := by
  unfold bitAt wbX wbY
  split
  · rw [W_msb _ (by omega)]
  · rw [W_msb _ (by omega), show 64 + (i - 64) = i from by omega]

/-- The sign of a digit. -/
def hx (n : Nat) : UInt8 := hexs.getD n 0

/-- A number below 65536 in hexadecimal digits, no noughts ahead. -/
def hexL (v : Nat) : List UInt8 := if v < 16 then [hx v] else if v < 256 then [hx (v / 16), hx (v % 16)] else if v < 4096 then [hx (v / 256), hx (v / 16 % 16), hx (v % 16)] else [hx (v / 4096), hx (v / 256 % 16), hx (v / 16 % 16), hx (v % 16)]

/-- With all of its noughts. -/
def hex4 (v : Nat) : List UInt8 := [hx (v / 4096), hx (v / 256 % 16), hx (v / 16 % 16), hx (v % 16)]

theorem dgt_bound {b : Nat} (hb : b ≤ 16) (u : UInt8) : -1 ≤ dgt b u ∧ dgt b u < b := by
  have key : ∀ l : List UInt8, -1 ≤ Lib.indexByte l u ∧ Lib.indexByte l u < (l.length : Int) ∨ (l = [] ∧ Lib.indexByte l u = -1) := by
    intro l
    induction l with
    | nil => exact .inr ⟨rfl, rfl⟩
    | cons a l ih =>
      left
      unfold Lib.indexByte
      rw [List.length_cons]
      split
      · omega
      · split
        · omega
        · rename_i h; rcases ih with ih | ⟨rfl, ih⟩
          · have : Lib.indexByte l u ≠ -1 := by simpa using h
            omega
          · simp [ih] at h
  rcases key (hexs.take b) with h | ⟨h, h'⟩
  · have : (hexs.take b).length ≤ b := by rw [List.length_take]; omega
    unfold dgt; omega
  · unfold dgt; rw [h']; omega

theorem valL_bound {b : Nat} (hb : b ≤ 16) : ∀ (n : Nat) (l : List UInt8), l.length = n → okL b l = true → 0 ≤ valL b l ∧ valL b l < (16 : Int) ^ n := by
  intro n
  induction n with
  | zero => intro l hl _; rw [List.eq_nil_of_length_eq_zero hl]; simp [valL]
  | succ n ih =>
    intro l hl hk
    obtain ⟨l', u, rfl⟩ : ∃ l' u, l = l' ++ [u] := ⟨l.dropLast, l.getLast (by intro h; simp [h] at hl), (List.dropLast_concat_getLast _).symm⟩
    rw [okL_snoc, Bool.and_eq_true, decide_eq_true_eq] at hk
    obtain ⟨h0, h1⟩ := ih l' (by simpa using hl) hk.1
    have hd := dgt_bound hb u
    rw [valL_snoc, Int.pow_succ]
    have e1 : 0 ≤ valL b l' * (b : Int) := Int.mul_nonneg h0 (by omega)
    have e2 : valL b l' * (b : Int) ≤ valL b l' * 16 := Int.mul_le_mul_of_nonneg_left (by omega) h0
    by_cases hb' : b = 16
    · subst hb'; omega
    · by_cases h3 : b = 0
      · subst h3; omega
      · have e3 : valL b l' * (b : Int) ≤ ((16 : Int) ^ n - 1) * b := Int.mul_le_mul_of_nonneg_right (by omega) (by omega)
        have e4 : ((16 : Int) ^ n - 1) * b ≤ ((16 : Int) ^ n - 1) * 16 := Int.mul_le_mul_of_nonneg_left (by omega) (by omega)
        omega

theorem valL_small {b : Nat} (hb : b ≤ 16) {l : List UInt8} (hl : l.length ≤ 9) (hk : okL b l = true) : 0 ≤ valL b l ∧ valL b l < 68719476736 := by
  obtain ⟨h0, h1⟩ := valL_bound hb _ l rfl hk
  have : (16 : Int) ^ l.length ≤ 16 ^ 9 := by
    have := Nat.pow_le_pow_right (show 0 < 16 by omega) hl
    exact_mod_cast this
  omega

theorem indexByte_cut (c : UInt8) : ∀ l : List UInt8, (Lib.indexByte l c < 0 → cutL c l = (l, [], false) ∧ Lib.indexByte l c = -1) ∧
    (0 ≤ Lib.indexByte l c → Lib.indexByte l c < (l.length : Int) ∧ cutL c l = (l.take (Lib.indexByte l c).toNat, l.drop ((Lib.indexByte l c).toNat + 1), true))
  | [] => by simp [Lib.indexByte, cutL]
  | b :: l => by
    obtain ⟨h1, h2⟩ := indexByte_cut c l
    unfold Lib.indexByte cutL
    by_cases hb : b = c
    · subst hb; simp
    · have e : (b == c) = false := by simpa using hb
      simp only [e, hb, if_false, Bool.false_eq_true]
      by_cases hi : Lib.indexByte l c < 0
      · obtain ⟨h3, h4⟩ := h1 hi
        rw [h4, h3]; simp
      · obtain ⟨h3, h4⟩ := h2 (by omega)
        have e2 : (Lib.indexByte l c == -1) = false := by simp; omega
        rw [e2, h4]
        simp only [Bool.false_eq_true, if_false, List.length_cons]
        refine ⟨fun h => by omega, fun _ => ⟨by omega, ?_⟩⟩
        have e3 : (Lib.indexByte l c + 1).toNat = (Lib.indexByte l c).toNat + 1 := by omega
        rw [e3, List.take_succ_cons, List.drop_succ_cons]

/-- The texts of an address: of four numbers, of eight groups. -/
def text4 (a b : BitVec 64) : List UInt8 := Lib.join ((List.range 4).map fun k => Lib.decDigits (partV (fun i => bitAt a b (8 * k + i)) 8)) [46]
def text6 (a b : BitVec 64) : List UInt8 := Lib.join ((List.range 8).map fun k => hex4 (partV (fun i => bitAt a b (16 * k + i)) 16)) [58]

/-- An address out of its text, part by part: rV, rB: the number of a part, is it one. -/
def pgo (c : UInt8) (rV : List UInt8 → Int) (rB : List UInt8 → Bool) (bits : Nat) : Nat → Nat → BitVec 64 → BitVec 64 → List UInt8 → Option (BitVec 64 × BitVec 64)
  | 0, _, a, b, _ => some (a, b)
  | n + 1, k, a, b, l => if rB (cutL c l).1 = true ∧ (cutL c l).2.2 = decide (n ≠ 0) then
      pgo c rV rB bits n (k + 1) (wbX a b (k * bits) bits (rV (cutL c l).1).toNat bits) (wbY a b (k * bits) bits (rV (cutL c l).1).toNat bits) (cutL c l).2.1
    else none

def r4V (l : List UInt8) : Int := numV l 255
def r4B (l : List UInt8) : Bool := numOK l 255
def r6V (l : List UInt8) : Int := if l.length = 4 then valV 16 l else 0
def r6B (l : List UInt8) : Bool := decide (l.length = 4) && valB 16 l

/-- The address that a text is, of a family. -/
def parseA (w : Int) (l : List UInt8) : Option (BitVec 64 × BitVec 64) :=
  if w = 32 then pgo 46 r4V r4B 8 4 0 0#64 0#64 l else if w = 128 then pgo 58 r6V r6B 16 8 0 0#64 0#64 l else none

def paX (w : Int) (l : List UInt8) : BitVec 64 := match parseA w l with | some p => p.1 | none => 0#64
def paY (w : Int) (l : List UInt8) : BitVec 64 := match parseA w l with | some p => p.2 | none => 0#64
def paE (w : Int) (l : List UInt8) : Int := if w = 32 ∨ w = 128 then (match parseA w l with | some _ => 0 | none => 4) else 1

theorem r4_bound {l : List UInt8} (h : r4B l = true) : 0 ≤ r4V l ∧ r4V l ≤ 255 := by
  unfold r4B numOK at h
  unfold r4V numV numOK
  rw [h, if_pos rfl]
  simp only [Bool.and_eq_true, decide_eq_true_eq] at h
  exact ⟨(valL_small (by omega) h.1 h.2.2.1).1, h.2.2.2.2⟩

theorem r6_bound {l : List UInt8} (h : r6B l = true) : 0 ≤ r6V l ∧ r6V l < 65536 := by
  unfold r6B valB at h
  simp only [Bool.and_eq_true, decide_eq_true_eq] at h
  unfold r6V valV
  rw [if_pos h.1, if_pos h.2.1]
  have := valL_bound (b := 16) (by omega) 4 l h.1 h.2.1
  omega

end Go.Sx.M
