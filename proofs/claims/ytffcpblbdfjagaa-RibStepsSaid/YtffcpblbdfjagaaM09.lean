/-
  Plain mathematics for words: bit by bit of two words of 64 bits. No program.
-/
import Derived.Test.YtffcpblbdfjagaaM04
import Derived.Test.YtffcpblbdfjagaaM03
namespace Go.Sx.M

theorem bitAt_and (a b c d : BitVec 64) (k : Nat) : bitAt (a &&& c) (b &&& d) k = (bitAt a b k && bitAt c d k) := by
  unfold bitAt; split <;> rw [BitVec.getMsbD_and]

theorem bitAt_or (a b c d : BitVec 64) (k : Nat) : bitAt (a ||| c) (b ||| d) k = (bitAt a b k || bitAt c d k) := by
  unfold bitAt; split <;> rw [BitVec.getMsbD_or]

theorem bitAt_xor (a b c d : BitVec 64) (k : Nat) : bitAt (a ^^^ c) (b ^^^ d) k = (bitAt a b k ^^ bitAt c d k) := by
  unfold bitAt; split <;> rw [BitVec.getMsbD_xor]

theorem bitAt_not (a b : BitVec 64) {k : Nat} (hk : k < 128) : bitAt (~~~a) (~~~b) k = !bitAt a b k := by
  unfold bitAt; split <;> rw [BitVec.getMsbD_not]
  · simp [*]
  · simp; omega

theorem bitAt_zero (k : Nat) : bitAt 0#64 0#64 k = false := by
  unfold bitAt; split <;> simp

theorem pair_beq {a b c d : BitVec 64} : (a == c && b == d) = true ↔ ∀ k, k < 128 → bitAt a b k = bitAt c d k := by
  rw [Bool.and_eq_true, beq_iff_eq, beq_iff_eq]
  exact ⟨fun ⟨h1, h2⟩ k _ => by rw [h1, h2], fun h => bitAt_eq h⟩

/-- Does the word v w, with the mask m n, match a b? -/
def wmB (v w m n a b : BitVec 64) : Bool := a &&& m == v &&& m && b &&& n == w &&& n

theorem wmB_iff {v w m n a b : BitVec 64} : wmB v w m n a b = true ↔ ∀ k, k < 128 → bitAt m n k = true → bitAt v w k = bitAt a b k := by
  unfold wmB
  rw [pair_beq]
  refine ⟨fun h k hk hm => ?_, fun h k hk => ?_⟩
  · have := h k hk
    rw [bitAt_and, bitAt_and, hm] at this
    simpa using this.symm
  · rw [bitAt_and, bitAt_and]
    cases hm : bitAt m n k with
    | true => rw [h k hk hm]
    | false => simp

/-- Is there one that both match? -/
def wtB (v w m n c d p q : BitVec 64) : Bool := (v ^^^ c) &&& (m &&& p) == 0#64 && (w ^^^ d) &&& (n &&& q) == 0#64

theorem wtB_iff {v w m n c d p q : BitVec 64} : wtB v w m n c d p q = true ↔ ∀ k, k < 128 → bitAt m n k = true → bitAt p q k = true → bitAt v w k = bitAt c d k := by
  unfold wtB
  rw [pair_beq]
  refine ⟨fun h k hk h1 h2 => ?_, fun h k hk => ?_⟩
  · have := h k hk
    rw [bitAt_and, bitAt_and, bitAt_xor, bitAt_zero, h1, h2] at this
    revert this
    cases bitAt v w k <;> cases bitAt c d k <;> simp
  · rw [bitAt_and, bitAt_and, bitAt_xor, bitAt_zero]
    cases h1 : bitAt m n k with
    | false => simp
    | true => cases h2 : bitAt p q k with
      | false => simp
      | true => rw [h k hk h1 h2]; simp

/-- Does the one match all that the other one matches? -/
def wcB (v w m n c d p q : BitVec 64) : Bool := m &&& p == m && n &&& q == n && wtB v w m n c d p q

theorem wcB_iff {v w m n c d p q : BitVec 64} : wcB v w m n c d p q = true ↔ ∀ k, k < 128 → bitAt m n k = true → bitAt p q k = true ∧ bitAt v w k = bitAt c d k := by
  unfold wcB
  rw [Bool.and_eq_true, pair_beq, wtB_iff]
  refine ⟨fun ⟨h, h'⟩ k hk hm => ?_, fun h => ⟨fun k hk => ?_, fun k hk h1 h2 => (h k hk h1).2⟩⟩
  · have := h k hk
    rw [bitAt_and, hm, Bool.true_and] at this
    exact ⟨this, h' k hk hm this⟩
  · rw [bitAt_and]
    cases hm : bitAt m n k with
    | false => simp
    | true => rw [(h k hk hm).1]; simp

theorem wcB_eq {v w m n c d p q : BitVec 64} : (wtB v w m n c d p q && ((v &&& m ||| c &&& p) == c &&& p && (w &&& n ||| d &&& q) == d &&& q && ((m ||| p) == p && (n ||| q) == q))) = wcB v w m n c d p q := by
  rw [Bool.eq_iff_iff, Bool.and_eq_true, Bool.and_eq_true, pair_beq, pair_beq, wtB_iff, wcB_iff]
  refine ⟨fun ⟨h1, _, h3⟩ k hk hm => ?_, fun h => ⟨fun k hk h1 h2 => (h k hk h1).2, fun k hk => ?_, fun k hk => ?_⟩⟩
  · have := h3 k hk
    rw [bitAt_or, hm, Bool.true_or] at this
    exact ⟨this.symm, h1 k hk hm this.symm⟩
  · rw [bitAt_or, bitAt_and, bitAt_and]
    cases hm : bitAt m n k with
    | false => simp
    | true => rw [(h k hk hm).1, (h k hk hm).2]; simp
  · rw [bitAt_or]
    cases hm : bitAt m n k with
    | false => simp
    | true => rw [(h k hk hm).1]; simp

theorem wtB_comm {v w m n c d p q : BitVec 64} : wtB c d p q v w m n = wtB v w m n c d p q := by
  rw [Bool.eq_iff_iff, wtB_iff, wtB_iff]
  exact ⟨fun h k hk h1 h2 => (h k hk h2 h1).symm, fun h k hk h1 h2 => (h k hk h2 h1).symm⟩

/-- What both match. -/
theorem both_match {v w m n c d p q a b : BitVec 64} (h : wtB v w m n c d p q = true) :
    wmB (v &&& m ||| c &&& p) (w &&& n ||| d &&& q) (m ||| p) (n ||| q) a b = (wmB v w m n a b && wmB c d p q a b) := by
  rw [wtB_iff] at h
  rw [Bool.eq_iff_iff, Bool.and_eq_true, wmB_iff, wmB_iff, wmB_iff]
  refine ⟨fun g => ⟨fun k hk hm => ?_, fun k hk hp => ?_⟩, fun ⟨g1, g2⟩ k hk => ?_⟩
  · have := g k hk
    have h' := h k hk hm
    simp only [bitAt_or, bitAt_and, hm, Bool.true_or, Bool.and_true, forall_const] at this
    rw [← this]
    cases hp : bitAt p q k with
    | false => simp
    | true => rw [h' hp]; simp
  · have := g k hk
    have h' := fun hm => h k hk hm hp
    simp only [bitAt_or, bitAt_and, hp, Bool.or_true, Bool.and_true, forall_const] at this
    rw [← this]
    cases hm : bitAt m n k with
    | false => simp
    | true => rw [h' hm]; simp
  · have h' := h k hk
    have g1' := g1 k hk
    have g2' := g2 k hk
    rw [bitAt_or, bitAt_or, bitAt_and, bitAt_and]
    revert h' g1' g2'
    cases bitAt m n k <;> cases bitAt p q k <;> simp_all

theorem both_right {v w m n c d p q : BitVec 64} : ((v &&& m ||| c &&& p) &&& (m ||| p) == (v &&& m ||| c &&& p) && (w &&& n ||| d &&& q) &&& (n ||| q) == (w &&& n ||| d &&& q)) = true := by
  rw [pair_beq]
  intro k hk
  rw [bitAt_and, bitAt_or, bitAt_or, bitAt_and, bitAt_and]
  cases bitAt m n k <;> cases bitAt p q k <;> simp

theorem both_covers {v w m n c d p q : BitVec 64} (h : wtB v w m n c d p q = true) : wcB v w m n (v &&& m ||| c &&& p) (w &&& n ||| d &&& q) (m ||| p) (n ||| q) = true ∧ wcB c d p q (v &&& m ||| c &&& p) (w &&& n ||| d &&& q) (m ||| p) (n ||| q) = true := by
  rw [wtB_iff] at h
  rw [wcB_iff, wcB_iff]
  refine ⟨fun k hk hm => ?_, fun k hk hp => ?_⟩
  · have h' := h k hk hm
    rw [bitAt_or, bitAt_or, bitAt_and, bitAt_and, hm]
    revert h'
    cases bitAt p q k <;> simp
    exact fun e => by rw [e]; simp
  · have h' := fun hm => h k hk hm hp
    rw [bitAt_or, bitAt_or, bitAt_and, bitAt_and, hp]
    revert h'
    cases bitAt m n k <;> simp
    exact fun e => by rw [e]; simp

theorem apart_match {v w m n c d p q a b : BitVec 64} (h : wtB v w m n c d p q = false) (h1 : wmB v w m n a b = true) : wmB c d p q a b = false := by
  cases h2 : wmB c d p q a b with
  | false => rfl
  | true =>
    rw [wmB_iff] at h1 h2
    have : wtB v w m n c d p q = true := wtB_iff.2 fun k hk hm hp => (h1 k hk hm).trans (h2 k hk hp).symm
    rw [this] at h; cases h

theorem wc_trans {v w m n c d p q e f g h : BitVec 64} (h1 : wcB v w m n c d p q = true) (h2 : wcB c d p q e f g h = true) : wcB v w m n e f g h = true := by
  rw [wcB_iff] at h1 h2 ⊢
  exact fun k hk hm => ⟨(h2 k hk (h1 k hk hm).1).1, (h1 k hk hm).2.trans (h2 k hk (h1 k hk hm).1).2⟩

theorem wc_match {v w m n c d p q a b : BitVec 64} (h1 : wcB v w m n c d p q = true) (h2 : wmB c d p q a b = true) : wmB v w m n a b = true := by
  rw [wcB_iff] at h1
  rw [wmB_iff] at h2 ⊢
  exact fun k hk hm => (h1 k hk hm).2.trans (h2 k hk (h1 k hk hm).1)

theorem wc_refl {v w m n : BitVec 64} : wcB v w m n v w m n = true := by
  rw [wcB_iff]; exact fun _ _ hm => ⟨hm, rfl⟩

/-- A word, or nothing. -/
def selW (b : Bool) (x : BitVec 64) : BitVec 64 := if b then x else 0#64

/-- Do two words of one mask differ in one bit? -/
def mgB (v w m n c d p q : BitVec 64) : Bool := (m == p && n == q) && cf (bitAt ((v ^^^ c) &&& m) ((w ^^^ d) &&& n)) 128 == 1

end Go.Sx.M
