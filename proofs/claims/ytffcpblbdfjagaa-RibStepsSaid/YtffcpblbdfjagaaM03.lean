/-
  Plain mathematics: how many bits of two words are set, counted from the left. No program.
-/
import Derived.Test.YtffcpblbdfjagaaM01
import Derived.Test.YtffcpblbdfjagaaM02
namespace Go.Sx.M

/-- How many of the first n are true. -/
def cf (f : Nat → Bool) : Nat → Nat
  | 0 => 0
  | n + 1 => cf f n + (if f n then 1 else 0)

theorem cf_congr {f g : Nat → Bool} : ∀ {n : Nat}, (∀ i, i < n → f i = g i) → cf f n = cf g n
  | 0, _ => rfl
  | n + 1, h => by simp only [cf]; rw [cf_congr fun i hi => h i (by omega), h n (by omega)]

theorem cf_first (f : Nat → Bool) : ∀ n, cf f (n + 1) = (if f 0 then 1 else 0) + cf (fun i => f (i + 1)) n
  | 0 => by simp [cf]
  | n + 1 => by
    have ih := cf_first f n
    rw [show cf f (n + 1 + 1) = cf f (n + 1) + (if f (n + 1) then 1 else 0) from rfl, ih]
    simp only [cf]
    omega

theorem cf_turn (f : Nat → Bool) : ∀ n, cf (fun i => f (n - 1 - i)) n = cf f n
  | 0 => rfl
  | n + 1 => by
    rw [cf_first]
    have h : cf (fun i => f (n + 1 - 1 - (i + 1))) n = cf (fun i => f (n - 1 - i)) n := cf_congr fun i hi => by congr 1; omega
    rw [h, cf_turn f n]
    simp only [cf, Nat.add_sub_cancel, Nat.sub_zero]
    omega

theorem cf_add (f : Nat → Bool) (m : Nat) : ∀ n, cf f (m + n) = cf f m + cf (fun i => f (m + i)) n
  | 0 => rfl
  | n + 1 => by
    rw [show cf f (m + (n + 1)) = cf f (m + n) + (if f (m + n) then 1 else 0) from rfl, cf_add f m n]
    simp only [cf]; omega

theorem cf_not (f : Nat → Bool) : ∀ n, cf (fun i => !f i) n + cf f n = n
  | 0 => rfl
  | n + 1 => by
    have := cf_not f n
    simp only [cf]
    have h : ∀ c : Bool, (if (!c) = true then 1 else 0) + (if c = true then 1 else 0) = 1 := by decide
    have := h (f n)
    omega

theorem cnt_cf (x : Nat) : ∀ n, cnt n x = cf (fun i => x.testBit i) n
  | 0 => rfl
  | n + 1 => by simp only [cnt, cf]; rw [cnt_cf x n]

theorem cnt_word (a : BitVec 64) : cnt 64 a.toNat = cf (fun i => a.getMsbD i) 64 := by
  rw [cnt_cf, ← cf_turn]
  refine cf_congr fun i hi => ?_
  rw [BitVec.getMsbD, show decide (i < 64) = true from by simpa using hi, Bool.true_and]
  rfl

theorem cnt_words (a b : BitVec 64) : cnt 64 a.toNat + cnt 64 b.toNat = cf (bitAt a b) 128 := by
  have h1 : cf (bitAt a b) 64 = cf (fun i => a.getMsbD i) 64 := cf_congr fun i hi => by rw [bitAt, if_pos hi]
  have h2 : cf (fun i => bitAt a b (64 + i)) 64 = cf (fun i => b.getMsbD i) 64 := cf_congr fun i hi => by
    rw [bitAt, if_neg (by omega), Nat.add_sub_cancel_left]
  rw [show 128 = 64 + 64 from rfl, cf_add, cnt_word, cnt_word, h1, h2]

theorem cnt_not (a b : BitVec 64) : cnt 64 (~~~a).toNat + cnt 64 (~~~b).toNat + (cnt 64 a.toNat + cnt 64 b.toNat) = 128 := by
  have e : ∀ a : BitVec 64, cnt 64 (~~~a).toNat + cnt 64 a.toNat = 64 := fun a => by
    rw [cnt_word, cnt_word]
    have h : cf (fun i => (~~~a).getMsbD i) 64 = cf (fun i => !a.getMsbD i) 64 := cf_congr fun i hi => by simp [hi]
    rw [h, cf_not]
  have := e a
  have := e b
  omega

end Go.Sx.M
