/-
  Plain mathematics: rows of entries, looked at in their order: the best one; the least length; one behind another one. No program.
-/
import Derived.Test.YtbhbokhdkapkpaaM12
namespace Go.Sx.M

/-- The best one of the first n, looked at in their order; -1: none matches. -/
def fbG (l : List En) (a b : BitVec 64) : Nat → Int
  | 0 => -1
  | n + 1 => if (decide (fbG l a b n < 0) || decide ((at' l n).len > (at' l (fbG l a b n).toNat).len)) && mtE (at' l n) a b then (n : Int) else fbG l a b n

theorem fbG_spec (l : List En) (a b : BitVec 64) : ∀ n, (fbG l a b n = -1 ∧ ∀ j, j < n → mtE (at' l j) a b = false) ∨
    ∃ i : Nat, fbG l a b n = i ∧ i < n ∧ mtE (at' l i) a b = true ∧ ∀ j, j < n → mtE (at' l j) a b = true → (at' l j).len ≤ (at' l i).len ∧ (j < i → (at' l j).len < (at' l i).len)
  | 0 => .inl ⟨rfl, fun j h => by omega⟩
  | n + 1 => by
    have ih := fbG_spec l a b n
    unfold fbG
    generalize fbG l a b n = r at ih
    cases hm : mtE (at' l n) a b with
    | false =>
      rw [Bool.and_false, if_neg (by simp)]
      rcases ih with ⟨h1, h2⟩ | ⟨i, h1, h2, h3, h4⟩
      · exact .inl ⟨h1, fun j hj => by
          rcases Nat.lt_or_eq_of_le (Nat.le_of_lt_succ hj) with h | rfl
          · exact h2 j h
          · exact hm⟩
      · exact .inr ⟨i, h1, by omega, h3, fun j hj hj2 => by
          rcases Nat.lt_or_eq_of_le (Nat.le_of_lt_succ hj) with h | rfl
          · exact h4 j h hj2
          · rw [hm] at hj2; cases hj2⟩
    | true =>
      rw [Bool.and_true]
      rcases ih with ⟨rfl, h2⟩ | ⟨i, rfl, h2, h3, h4⟩
      · rw [if_pos (by simp)]
        exact .inr ⟨n, rfl, by omega, hm, fun j hj hj2 => by
          rcases Nat.lt_or_eq_of_le (Nat.le_of_lt_succ hj) with h | rfl
          · rw [h2 j h] at hj2; cases hj2
          · exact ⟨Int.le_refl _, fun h => by omega⟩⟩
      · have e3 : ((i : Int)).toNat = i := by omega
        rw [e3, show decide ((i : Int) < 0) = false from by simp, Bool.false_or]
        by_cases hl : (at' l n).len > (at' l i).len
        · rw [if_pos (by simpa using hl)]
          exact .inr ⟨n, rfl, by omega, hm, fun j hj hj2 => by
            rcases Nat.lt_or_eq_of_le (Nat.le_of_lt_succ hj) with h | rfl
            · have := (h4 j h hj2).1
              exact ⟨by omega, fun _ => by omega⟩
            · exact ⟨Int.le_refl _, fun h => by omega⟩⟩
        · rw [if_neg (by simpa using hl)]
          exact .inr ⟨i, rfl, by omega, h3, fun j hj hj2 => by
            rcases Nat.lt_or_eq_of_le (Nat.le_of_lt_succ hj) with h | rfl
            · exact h4 j h hj2
            · exact ⟨by omega, fun h => by omega⟩⟩

theorem fbG_all (l : List En) (a b : BitVec 64) : fbG l a b l.length = bsI l a b := by
  refine BestFrom.uniq ?_ (bsI_spec l a b)
  rcases fbG_spec l a b l.length with ⟨h1, h2⟩ | ⟨i, h1, h2, h3, h4⟩
  · exact .inl ⟨h1, fun j _ hj => h2 j hj⟩
  · exact .inr ⟨i, h1, by omega, h2, h3, fun j _ hj hm => h4 j hj hm⟩

/-- The least length of the first n. -/
def mnG (l : List En) : Nat → Int
  | 0 => 9223372036854775807
  | n + 1 => if (at' l n).len < mnG l n then (at' l n).len else mnG l n

theorem mnG_le (l : List En) : ∀ n j, j < n → mnG l n ≤ (at' l j).len
  | 0, j, h => by omega
  | n + 1, j, h => by
    unfold mnG
    rcases Nat.lt_or_eq_of_le (Nat.le_of_lt_succ h) with h' | rfl
    · have := mnG_le l n j h'
      split <;> omega
    · split <;> omega

/-- None of the first n stands behind one that it must stand above. -/
def OrTo (l : List En) (n : Nat) : Prop := ∀ k, k < n → ∀ i, i < k → abE (at' l k) (at' l i) = false

theorem OrTo.all {l : List En} : orE l = true ↔ OrTo l l.length := by
  rw [orE_iff]
  exact ⟨fun h k hk i hi => h i (by omega) k hk hi, fun h i _ k hk hik => h k hk i hik⟩

theorem OrTo.short {l : List En} {n : Nat} (h : OrTo l n) (hs : ¬ (at' l n).len > mnG l n) : OrTo l (n + 1) := fun k hk i hi => by
  rcases Nat.lt_or_eq_of_le (Nat.le_of_lt_succ hk) with h' | rfl
  · exact h k h' i hi
  · have := mnG_le l k i hi
    unfold abE
    rw [show decide ((at' l k).len > (at' l i).len) = false from by simp; omega, Bool.false_and]

theorem OrTo.next {l : List En} {n : Nat} (h : OrTo l n) (hs : ∀ i, i < n → abE (at' l n) (at' l i) = false) : OrTo l (n + 1) := fun k hk i hi => by
  rcases Nat.lt_or_eq_of_le (Nat.le_of_lt_succ hk) with h' | rfl
  · exact h k h' i hi
  · exact hs i hi

end Go.Sx.M
