/-
  Plain mathematics: the first bit that differs; two words as one number. No program.
-/
import Derived.Test.YtffcpblbdfjagaaM01
namespace Go.Sx.M

/-- The first place, from k on, of the next n, at which two rows differ, or the end. -/
def comG (f g : Nat → Bool) : Nat → Nat → Nat
  | 0, k => k
  | n + 1, k => if f k = g k then comG f g n (k + 1) else k

def com (f g : Nat → Bool) : Nat := comG f g 128 0

structure IsCom (f g : Nat → Bool) (n : Nat) : Prop where
  le : n ≤ 128
  same : ∀ i, i < n → f i = g i
  other : n < 128 → f n ≠ g n

theorem comG_spec (f g : Nat → Bool) : ∀ n k, k ≤ comG f g n k ∧ comG f g n k ≤ k + n ∧ (∀ i, k ≤ i → i < comG f g n k → f i = g i) ∧ (comG f g n k < k + n → f (comG f g n k) ≠ g (comG f g n k))
  | 0, k => ⟨Nat.le_refl _, Nat.le_refl _, fun i h1 h2 => absurd h2 (by simp only [comG]; omega), fun h => absurd h (by simp only [comG]; omega)⟩
  | n + 1, k => by
    simp only [comG]
    split
    · rename_i h
      obtain ⟨h1, h2, h3, h4⟩ := comG_spec f g n (k + 1)
      refine ⟨by omega, by omega, fun i h5 h6 => ?_, fun h5 => h4 (by omega)⟩
      rcases Nat.eq_or_lt_of_le h5 with rfl | h7
      · exact h
      · exact h3 i h7 h6
    · rename_i h
      exact ⟨Nat.le_refl _, by omega, fun i h5 h6 => by omega, fun _ => h⟩

theorem com_spec (f g : Nat → Bool) : IsCom f g (com f g) := by
  obtain ⟨_, h2, h3, h4⟩ := comG_spec f g 128 0
  exact ⟨by simpa [com] using h2, fun i hi => h3 i (Nat.zero_le _) hi, fun h => h4 (by simpa [com] using h)⟩

theorem IsCom.uniq {f g : Nat → Bool} {n m : Nat} (h : IsCom f g n) (h' : IsCom f g m) : n = m := by
  rcases Nat.lt_trichotomy n m with hlt | h0 | hlt
  · exact absurd (h'.same n hlt) (h.other (by have := h'.le; omega))
  · exact h0
  · exact absurd (h.same m hlt) (h'.other (by have := h.le; omega))

theorem IsCom.symm {f g : Nat → Bool} {n : Nat} (h : IsCom f g n) : IsCom g f n := ⟨h.le, fun i hi => (h.same i hi).symm, fun hn e => h.other hn e.symm⟩

theorem com_comm (f g : Nat → Bool) : com f g = com g f := (com_spec f g).uniq (com_spec g f).symm

/-- Two words as one number. -/
def V (a b : BitVec 64) : Nat := a.toNat * 2 ^ 64 + b.toNat

theorem V_lt (a b : BitVec 64) : V a b < 2 ^ 128 := by
  have := a.isLt
  have := b.isLt
  unfold V; omega

theorem V_inj {a b c d : BitVec 64} : V a b = V c d ↔ a = c ∧ b = d := by
  have h1 := b.isLt
  have h2 := d.isLt
  refine ⟨fun h => ?_, fun h => by rw [h.1, h.2]⟩
  unfold V at h
  exact ⟨BitVec.eq_of_toNat_eq (by omega), BitVec.eq_of_toNat_eq (by omega)⟩

theorem V_bit (a b : BitVec 64) {k : Nat} (hk : k < 128) : (V a b).testBit (127 - k) = bitAt a b k := by
  unfold V bitAt
  rw [Nat.mul_comm, Nat.testBit_two_pow_mul_add _ b.isLt]
  split
  · rename_i h
    rw [if_neg (by omega), BitVec.getMsbD, show decide (k - 64 < 64) = true from by simp; omega, Bool.true_and, BitVec.getLsbD, show 64 - 1 - (k - 64) = 127 - k from by omega] <;> try omega
  · rename_i h
    rw [if_pos (by omega), BitVec.getMsbD, show decide (k < 64) = true from by simp; omega, Bool.true_and, BitVec.getLsbD]
    congr 1; omega

theorem bitAt_eq {a b c d : BitVec 64} (h : ∀ k, k < 128 → bitAt a b k = bitAt c d k) : a = c ∧ b = d := by
  refine ⟨msb_eq fun i hi => ?_, msb_eq fun i hi => ?_⟩
  · have := h i (by omega)
    unfold bitAt at this
    rwa [if_pos hi, if_pos hi] at this
  · have := h (64 + i) (by omega)
    unfold bitAt at this
    rwa [if_neg (by omega), if_neg (by omega), Nat.add_sub_cancel_left] at this

theorem lt_of_bit {m n i : Nat} (hm : m.testBit i = false) (hn : n.testBit i = true) (h : ∀ j, i < j → m.testBit j = n.testBit j) : m < n := by
  have e : m / 2 ^ (i + 1) = n / 2 ^ (i + 1) := Nat.eq_of_testBit_eq fun j => by
    rw [Nat.testBit_div_two_pow, Nat.testBit_div_two_pow]; exact h _ (by omega)
  rw [Nat.testBit_eq_decide_div_mod_eq, decide_eq_false_iff_not] at hm
  rw [Nat.testBit_eq_decide_div_mod_eq, decide_eq_true_eq] at hn
  rw [Nat.pow_succ, ← Nat.div_div_eq_div_mul, ← Nat.div_div_eq_div_mul] at e
  have h2 : m / 2 ^ i < n / 2 ^ i := by omega
  refine Nat.lt_of_not_le fun hle => ?_
  have := Nat.div_le_div_right (c := 2 ^ i) hle
  omega

theorem V_less {a b c d : BitVec 64} {n : Nat} (hn : n < 128) (hs : ∀ i, i < n → bitAt a b i = bitAt c d i) (h0 : bitAt a b n = false) (h1 : bitAt c d n = true) : V a b < V c d := by
  refine lt_of_bit (i := 127 - n) (by rw [V_bit a b hn, h0]) (by rw [V_bit c d hn, h1]) fun j hj => ?_
  by_cases h : j < 128
  · have e : j = 127 - (127 - j) := by omega
    rw [e, V_bit a b (by omega), V_bit c d (by omega)]
    exact hs _ (by omega)
  · rw [Nat.testBit_lt_two_pow (Nat.lt_of_lt_of_le (V_lt a b) (Nat.pow_le_pow_right (by omega) (by omega))), Nat.testBit_lt_two_pow (Nat.lt_of_lt_of_le (V_lt c d) (Nat.pow_le_pow_right (by omega) (by omega)))]

/-- Which of two numbers is the greater one. -/
def cmpV (m n : Nat) : Int := if m = n then 0 else if m < n then -1 else 1

theorem com_eq {a b c d : BitVec 64} : com (bitAt a b) (bitAt c d) = 128 ↔ a = c ∧ b = d := by
  have hs := com_spec (bitAt a b) (bitAt c d)
  refine ⟨fun h => bitAt_eq fun k hk => hs.same k (by omega), fun ⟨h1, h2⟩ => ?_⟩
  subst h1; subst h2
  rcases Nat.lt_or_ge (com (bitAt a b) (bitAt a b)) 128 with h | h
  · exact absurd rfl (hs.other h)
  · have := hs.le; omega

theorem com_cmp (a b c d : BitVec 64) : cmpV (V a b) (V c d) = if com (bitAt a b) (bitAt c d) = 128 then 0 else if bitAt c d (com (bitAt a b) (bitAt c d)) = true then -1 else 1 := by
  have hs := com_spec (bitAt a b) (bitAt c d)
  by_cases h : com (bitAt a b) (bitAt c d) = 128
  · rw [if_pos h]
    obtain ⟨rfl, rfl⟩ := com_eq.1 h
    unfold cmpV
    rw [if_pos rfl]
  · rw [if_neg h]
    have hlt : com (bitAt a b) (bitAt c d) < 128 := by have := hs.le; omega
    have ho := hs.other hlt
    cases hb : bitAt c d (com (bitAt a b) (bitAt c d)) with
    | true =>
      have ha : bitAt a b (com (bitAt a b) (bitAt c d)) = false := by
        rw [hb] at ho; cases hx : bitAt a b (com (bitAt a b) (bitAt c d)) with
        | true => rw [hx] at ho; exact absurd rfl ho
        | false => rfl
      have := V_less hlt hs.same ha hb
      unfold cmpV
      rw [if_neg (by omega), if_pos this, if_pos rfl]
    | false =>
      have ha : bitAt a b (com (bitAt a b) (bitAt c d)) = true := by
        rw [hb] at ho; cases hx : bitAt a b (com (bitAt a b) (bitAt c d)) with
        | true => rfl
        | false => rw [hx] at ho; exact absurd rfl ho
      have := V_less hlt (fun i hi => (hs.same i hi).symm) hb ha
      unfold cmpV
      rw [if_neg (by omega), if_neg (by omega), if_neg (by simp)]

end Go.Sx.M
