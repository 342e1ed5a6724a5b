/-
  Plain mathematics: entries, rows of entries: which one is the first, which the best one. No program.
-/
import Derived.Test.YtffcpblbdfjagaaM09
namespace Go.Sx.M

/-- An entry: a word's value and mask, its length, its action. -/
structure En where
  v : BitVec 64
  w : BitVec 64
  m : BitVec 64
  n : BitVec 64
  len : Int
  act : Int
  deriving DecidableEq, Inhabited

/-- Does its word match? -/
def mtE (x : En) (a b : BitVec 64) : Bool := wmB x.v x.w x.m x.n a b

/-- Is there an address that both match? -/
def meE (x y : En) : Bool := wtB x.v x.w x.m x.n y.v y.w y.m y.n

/-- Must the one stand above the other one? -/
def abE (x y : En) : Bool := decide (x.len > y.len) && meE x y

theorem meE_comm (x y : En) : meE x y = meE y x := wtB_comm

/-- Element k of a row. -/
def at' {T : Type} [Inhabited T] (l : List T) (k : Nat) : T := l.getD k default

theorem at_get {T : Type} [Inhabited T] {l : List T} {k : Nat} (h : k < l.length) : l[k]? = some (at' l k) := by
  unfold at'; rw [List.getD_eq_getElem?_getD, List.getElem?_eq_getElem h]; rfl

theorem at_mem {T : Type} [Inhabited T] {l : List T} {k : Nat} (h : k < l.length) : at' l k ∈ l := List.mem_of_getElem? (at_get h)

theorem mem_at {T : Type} [Inhabited T] {l : List T} {x : T} (h : x ∈ l) : ∃ k, k < l.length ∧ at' l k = x := by
  obtain ⟨k, hk⟩ := List.mem_iff_getElem?.1 h
  have hl := (List.getElem?_eq_some_iff.1 hk).1
  exact ⟨k, hl, by rw [at_get hl] at hk; exact Option.some_inj.1 hk⟩

/-- The first one from k on, n of them looked at; -1: there is none. -/
def fsG (p : En → Bool) (l : List En) : Nat → Nat → Int
  | 0, _ => -1
  | n + 1, k => if p (at' l k) then (k : Int) else fsG p l n (k + 1)

/-- The first one that matches; -1: there is none. -/
def fsI (l : List En) (a b : BitVec 64) : Int := fsG (fun x => mtE x a b) l l.length 0

theorem fsG_spec (p : En → Bool) (l : List En) : ∀ n k, (fsG p l n k = -1 ∧ ∀ j, k ≤ j → j < k + n → p (at' l j) = false) ∨
    ∃ i : Nat, fsG p l n k = i ∧ k ≤ i ∧ i < k + n ∧ p (at' l i) = true ∧ ∀ j, k ≤ j → j < i → p (at' l j) = false
  | 0, k => .inl ⟨rfl, fun j h1 h2 => by omega⟩
  | n + 1, k => by
    unfold fsG
    cases hp : p (at' l k) with
    | true => right; exact ⟨k, by simp, Nat.le_refl _, by omega, hp, fun j h1 h2 => by omega⟩
    | false =>
      simp only [Bool.false_eq_true, if_false]
      rcases fsG_spec p l n (k + 1) with ⟨h1, h2⟩ | ⟨i, h1, h2, h3, h4, h5⟩
      · left
        refine ⟨h1, fun j h3 h4 => ?_⟩
        rcases Nat.lt_or_eq_of_le h3 with h | rfl
        · exact h2 j h (by omega)
        · exact hp
      · right
        refine ⟨i, h1, by omega, by omega, h4, fun j h6 h7 => ?_⟩
        rcases Nat.lt_or_eq_of_le h6 with h | rfl
        · exact h5 j h h7
        · exact hp

/-- It is the first one that matches, or there is none. -/
def FirstAt (l : List En) (a b : BitVec 64) (r : Int) : Prop :=
  (r = -1 ∧ ∀ j, j < l.length → mtE (at' l j) a b = false) ∨ ∃ i : Nat, r = i ∧ i < l.length ∧ mtE (at' l i) a b = true ∧ ∀ j, j < i → mtE (at' l j) a b = false

theorem fsI_spec (l : List En) (a b : BitVec 64) : FirstAt l a b (fsI l a b) := by
  rcases fsG_spec (fun x => mtE x a b) l l.length 0 with ⟨h1, h2⟩ | ⟨i, h1, h2, h3, h4, h5⟩
  · exact .inl ⟨h1, fun j hj => h2 j (by omega) (by omega)⟩
  · exact .inr ⟨i, h1, by omega, h4, fun j hj => h5 j (by omega) hj⟩

theorem FirstAt.uniq {l : List En} {a b : BitVec 64} {r s : Int} (h : FirstAt l a b r) (h' : FirstAt l a b s) : r = s := by
  rcases h with ⟨rfl, h⟩ | ⟨i, rfl, hi, h1, h2⟩ <;> rcases h' with ⟨rfl, g⟩ | ⟨k, rfl, hk, g1, g2⟩
  · rfl
  · rw [h k hk] at g1; cases g1
  · rw [g i hi] at h1; cases h1
  · rcases Nat.lt_trichotomy i k with h | h | h
    · rw [g2 i h] at h1; cases h1
    · rw [h]
    · rw [h2 k h] at g1; cases g1

/-- The best one of the last n; -1: none matches. -/
def bsG (l : List En) (a b : BitVec 64) : Nat → Int
  | 0 => -1
  | n + 1 => if mtE (at' l (l.length - 1 - n)) a b && (decide (bsG l a b n < 0) || decide ((at' l (l.length - 1 - n)).len ≥ (at' l (bsG l a b n).toNat).len)) then ((l.length - 1 - n : Nat) : Int) else bsG l a b n

/-- The best one; -1: none matches. -/
def bsI (l : List En) (a b : BitVec 64) : Int := bsG l a b l.length

/-- Of those from k on it is the best one, or none matches. -/
def BestFrom (l : List En) (a b : BitVec 64) (k : Nat) (r : Int) : Prop :=
  (r = -1 ∧ ∀ j, k ≤ j → j < l.length → mtE (at' l j) a b = false) ∨
  ∃ i : Nat, r = i ∧ k ≤ i ∧ i < l.length ∧ mtE (at' l i) a b = true ∧ ∀ j, k ≤ j → j < l.length → mtE (at' l j) a b = true → (at' l j).len ≤ (at' l i).len ∧ (j < i → (at' l j).len < (at' l i).len)

theorem bsG_spec (l : List En) (a b : BitVec 64) : ∀ n, n ≤ l.length → BestFrom l a b (l.length - n) (bsG l a b n)
  | 0, _ => .inl ⟨rfl, fun j h1 h2 => by omega⟩
  | n + 1, hn => by
    have ih := bsG_spec l a b n (by omega)
    generalize hr : bsG l a b n = r at ih
    have e1 : l.length - (n + 1) = l.length - 1 - n := by omega
    have e2 : l.length - n = (l.length - 1 - n) + 1 := by omega
    rw [e2] at ih
    rw [e1]
    unfold bsG
    rw [hr]
    generalize hk : l.length - 1 - n = k at *
    have hkl : k < l.length := by omega
    cases hm : mtE (at' l k) a b with
    | false =>
      simp only [Bool.false_and, Bool.false_eq_true, if_false]
      rcases ih with ⟨h1, h2⟩ | ⟨i, h1, h2, h3, h4, h5⟩
      · left
        refine ⟨h1, fun j h3 h4 => ?_⟩
        rcases Nat.lt_or_eq_of_le h3 with h | rfl
        · exact h2 j h h4
        · exact hm
      · right
        refine ⟨i, h1, by omega, h3, h4, fun j h6 h7 h8 => ?_⟩
        rcases Nat.lt_or_eq_of_le h6 with h | rfl
        · exact h5 j h h7 h8
        · rw [hm] at h8; cases h8
    | true =>
      rcases ih with ⟨rfl, h2⟩ | ⟨i, rfl, h2, h3, h4, h5⟩
      · right
        refine ⟨k, by simp, Nat.le_refl _, hkl, hm, fun j h6 h7 h8 => ?_⟩
        rcases Nat.lt_or_eq_of_le h6 with h | rfl
        · rw [h2 j h h7] at h8; cases h8
        · exact ⟨Int.le_refl _, fun h => by omega⟩
      · have e3 : ((i : Int)).toNat = i := by omega
        rw [e3, show decide ((i : Int) < 0) = false from by simp]
        simp only [Bool.true_and, Bool.false_or]
        by_cases hl : (at' l k).len ≥ (at' l i).len
        · rw [if_pos (by simpa using hl)]
          right
          refine ⟨k, rfl, Nat.le_refl _, hkl, hm, fun j h6 h7 h8 => ?_⟩
          rcases Nat.lt_or_eq_of_le h6 with h | rfl
          · have := (h5 j h h7 h8).1
            exact ⟨by omega, fun h' => by omega⟩
          · exact ⟨Int.le_refl _, fun h => by omega⟩
        · rw [if_neg (by simpa using hl)]
          right
          refine ⟨i, rfl, by omega, h3, h4, fun j h6 h7 h8 => ?_⟩
          rcases Nat.lt_or_eq_of_le h6 with h | rfl
          · exact h5 j h h7 h8
          · exact ⟨by omega, fun _ => by omega⟩

theorem bsI_spec (l : List En) (a b : BitVec 64) : BestFrom l a b 0 (bsI l a b) := by
  have := bsG_spec l a b l.length (Nat.le_refl _)
  rwa [Nat.sub_self] at this

theorem BestFrom.uniq {l : List En} {a b : BitVec 64} {r s : Int} (h : BestFrom l a b 0 r) (h' : BestFrom l a b 0 s) : r = s := by
  rcases h with ⟨rfl, h⟩ | ⟨i, rfl, _, hi, h1, h2⟩ <;> rcases h' with ⟨rfl, g⟩ | ⟨k, rfl, _, hk, g1, g2⟩
  · rfl
  · rw [h k (by omega) hk] at g1; cases g1
  · rw [g i (by omega) hi] at h1; cases h1
  · have a1 := h2 k (by omega) hk g1
    have a2 := g2 i (by omega) hi h1
    rcases Nat.lt_trichotomy i k with h | h | h
    · have := a2.2 h; omega
    · rw [h]
    · have := a1.2 h; omega

/-- What is to be done: the best one's action; 0: none matches. -/
def tlI (l : List En) (a b : BitVec 64) : Int := if bsI l a b < 0 then 0 else (at' l (bsI l a b).toNat).act

/-- No one stands behind one that it must stand above. -/
def orE (l : List En) : Bool := decide (∀ i, i < l.length → ∀ k, k < l.length → i < k → abE (at' l k) (at' l i) = false)

theorem orE_iff {l : List En} : orE l = true ↔ ∀ i, i < l.length → ∀ k, k < l.length → i < k → abE (at' l k) (at' l i) = false := by
  unfold orE; rw [decide_eq_true_eq]

/-- Of an ordered row the first one that matches is the best one. -/
theorem first_best {l : List En} (h : orE l = true) (a b : BitVec 64) : fsI l a b = bsI l a b := by
  rw [orE_iff] at h
  refine BestFrom.uniq ?_ (bsI_spec l a b)
  rcases fsI_spec l a b with ⟨h1, h2⟩ | ⟨i, h1, hi, h2, h3⟩
  · exact .inl ⟨h1, fun j _ hj => h2 j hj⟩
  · refine .inr ⟨i, h1, by omega, hi, h2, fun j _ hj hm => ?_⟩
    rcases Nat.lt_trichotomy j i with hlt | rfl | hgt
    · rw [h3 j hlt] at hm; cases hm
    · exact ⟨Int.le_refl _, fun h => by omega⟩
    · have ho := h i hi j hj hgt
      have hme : meE (at' l j) (at' l i) = true := by
        unfold meE
        rw [wtB_iff]
        intro k hk k1 k2
        exact (wmB_iff.1 hm k hk k1).trans (wmB_iff.1 h2 k hk k2).symm
      unfold abE at ho
      rw [hme, Bool.and_true, decide_eq_false_iff_not] at ho
      exact ⟨by omega, fun h => by omega⟩

end Go.Sx.M
