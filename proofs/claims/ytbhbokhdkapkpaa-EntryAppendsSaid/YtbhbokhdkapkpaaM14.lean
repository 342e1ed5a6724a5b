/-
  Plain mathematics: what is to be done does not hang on the order of a row. No program.
-/
import Derived.Test.YtbhbokhdkapkpaaM13
namespace Go.Sx.M

/-- No two that match are as long, with other actions. -/
def Clear (l : List En) (a b : BitVec 64) : Prop := ∀ x, x ∈ l → ∀ y, y ∈ l → mtE x a b = true → mtE y a b = true → x.len = y.len → x.act = y.act

theorem tell_perm {l m : List En} {a b : BitVec 64} (hp : l.Perm m) (hc : Clear l a b) : tlI l a b = tlI m a b := by
  have cases' : ∀ k : List En, (bsI k a b < 0 ∧ ∀ x ∈ k, mtE x a b = false) ∨ ∃ x, x ∈ k ∧ mtE x a b = true ∧ tlI k a b = x.act ∧ ∀ y ∈ k, mtE y a b = true → y.len ≤ x.len := by
    intro k
    rcases bsI_spec k a b with ⟨h1, h2⟩ | ⟨i, h1, _, h2, h3, h4⟩
    · left
      refine ⟨by omega, fun x hx => ?_⟩
      obtain ⟨j, hj, rfl⟩ := mem_at hx
      exact h2 j (by omega) hj
    · right
      refine ⟨at' k i, at_mem h2, h3, ?_, fun y hy hm => ?_⟩
      · unfold tlI
        rw [if_neg (by omega), h1]; rfl
      · obtain ⟨j, hj, rfl⟩ := mem_at hy
        exact (h4 j (by omega) hj hm).1
  rcases cases' l with ⟨h1, h2⟩ | ⟨x, hx, hxm, hxa, hxl⟩ <;> rcases cases' m with ⟨g1, g2⟩ | ⟨y, hy, hym, hya, hyl⟩
  · unfold tlI; rw [if_pos h1, if_pos g1]
  · rw [h2 y (hp.mem_iff.2 hy)] at hym; cases hym
  · rw [g2 x (hp.mem_iff.1 hx)] at hxm; cases hxm
  · rw [hxa, hya]
    have hy' := hp.mem_iff.2 hy
    have hx' := hp.mem_iff.1 hx
    exact hc x hx y hy' hxm hym (Int.le_antisymm (hyl x hx' hxm) (hxl y hy' hym))

/-- None of the first n is as long as one ahead of it, with another action, where both match. -/
def ClearTo (l : List En) (a b : BitVec 64) (n : Nat) : Prop := ∀ i, i < n → ∀ k, k < i → (at' l i).len = (at' l k).len → mtE (at' l i) a b = true → mtE (at' l k) a b = true → (at' l i).act = (at' l k).act

theorem ClearTo.all {l : List En} {a b : BitVec 64} (h : ClearTo l a b l.length) : Clear l a b := by
  intro x hx y hy hxm hym hl
  obtain ⟨i, hi, rfl⟩ := mem_at hx
  obtain ⟨k, hk, rfl⟩ := mem_at hy
  rcases Nat.lt_trichotomy i k with hlt | rfl | hgt
  · exact (h k hk i hlt hl.symm hym hxm).symm
  · rfl
  · exact h i hi k hgt hl hxm hym

/-- The first one of a row of one. -/
theorem fsI_one (x : En) (a b : BitVec 64) : fsI [x] a b = if mtE x a b then 0 else -1 := by
  refine (fsI_spec [x] a b).uniq ?_
  cases h : mtE x a b with
  | true => exact .inr ⟨0, rfl, by simp, h, fun j hj => by omega⟩
  | false => exact .inl ⟨rfl, fun j hj => by
      have : j = 0 := by simp at hj; exact hj
      subst this; exact h⟩

end Go.Sx.M
