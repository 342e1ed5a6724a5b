/-
  Plain mathematics: the order of entries, sorted rows. No program.
-/
import Derived.Test.YtbhbokhdkapkpaaM11
namespace Go.Sx.M

/-- May an entry be? -/
def rtE (x : En) : Bool := (x.v &&& x.m == x.v && x.w &&& x.n == x.w) && (decide (x.len ≥ 0) && (decide (x.len ≤ 128) && (decide (x.act ≥ 1) && decide (x.act ≤ 255))))

/-- Are word and length the same? -/
def alE (x y : En) : Bool := (x.v == y.v && x.w == y.w && (x.m == y.m && x.n == y.n)) && x.len == y.len

/-- No less than 0. -/
def mx0 (n : Int) : Int := if 0 > n then 0 else n

def cmpZ (m n : Int) : Int := if m < n then -1 else if n < m then 1 else 0
def orZ (m n : Int) : Int := if m = 0 then n else m

/-- Which of two entries comes first: -1 the one, 1 the other one, 0: they are the same. -/
def cpE (x y : En) : Int := orZ (cmpZ y.len x.len) (orZ (cmpV (V x.v x.w) (V y.v y.w)) (orZ (cmpV (V x.m x.n) (V y.m y.n)) (cmpZ x.act y.act)))

theorem cmpV_turn (m n : Nat) : cmpV m n = - cmpV n m := by
  unfold cmpV
  rcases Nat.lt_trichotomy m n with h | h | h
  · rw [if_neg (by omega), if_pos h, if_neg (by omega), if_neg (by omega)]
  · rw [if_pos h, if_pos h.symm]; rfl
  · rw [if_neg (by omega), if_neg (by omega), if_neg (by omega), if_pos h]; rfl

theorem cmpV_zero {m n : Nat} : cmpV m n = 0 ↔ m = n := by
  unfold cmpV
  split
  · simp [*]
  · split <;> simp [*]

theorem cmpZ_turn (m n : Int) : cmpZ m n = - cmpZ n m := by
  unfold cmpZ
  rcases Int.lt_trichotomy m n with h | h | h
  · rw [if_pos h, if_neg (by omega), if_pos h]
  · rw [if_neg (by omega), if_neg (by omega), if_neg (by omega), if_neg (by omega)]; rfl
  · rw [if_neg (by omega), if_pos h, if_pos h]; rfl

theorem cmpZ_zero {m n : Int} : cmpZ m n = 0 ↔ m = n := by
  unfold cmpZ
  split
  · simp; omega
  · split
    · simp; omega
    · simp; omega

theorem orZ_turn {m n m' n' : Int} (h1 : m = - m') (h2 : n = - n') : orZ m n = - orZ m' n' := by
  unfold orZ; split <;> split <;> omega

theorem orZ_zero {m n : Int} : orZ m n = 0 ↔ m = 0 ∧ n = 0 := by
  unfold orZ; split <;> simp [*]

theorem cpE_turn (x y : En) : cpE x y = - cpE y x :=
  orZ_turn (cmpZ_turn _ _) (orZ_turn (cmpV_turn _ _) (orZ_turn (cmpV_turn _ _) (cmpZ_turn _ _)))

theorem cpE_zero {x y : En} : cpE x y = 0 ↔ x = y := by
  unfold cpE
  rw [orZ_zero, orZ_zero, orZ_zero, cmpZ_zero, cmpV_zero, cmpV_zero, cmpZ_zero, V_inj, V_inj]
  constructor
  · rintro ⟨h1, ⟨h2, h3⟩, ⟨h4, h5⟩, h6⟩
    cases x; cases y; simp_all
  · rintro rfl; simp

theorem cmpV_vals (m n : Nat) : (cmpV m n = -1 ∧ m < n) ∨ (cmpV m n = 0 ∧ m = n) ∨ (cmpV m n = 1 ∧ n < m) := by
  unfold cmpV
  rcases Nat.lt_trichotomy m n with h | h | h
  · left; rw [if_neg (by omega), if_pos h]; exact ⟨rfl, h⟩
  · right; left; rw [if_pos h]; exact ⟨rfl, h⟩
  · right; right; rw [if_neg (by omega), if_neg (by omega)]; exact ⟨rfl, h⟩

theorem cmpZ_vals (m n : Int) : (cmpZ m n = -1 ∧ m < n) ∨ (cmpZ m n = 0 ∧ m = n) ∨ (cmpZ m n = 1 ∧ n < m) := by
  unfold cmpZ
  rcases Int.lt_trichotomy m n with h | h | h
  · left; rw [if_pos h]; exact ⟨rfl, h⟩
  · right; left; rw [if_neg (by omega), if_neg (by omega)]; exact ⟨rfl, h⟩
  · right; right; rw [if_neg (by omega), if_pos h]; exact ⟨rfl, h⟩

/-- The order as one of numbers: no entry is before itself; of three in a row the first one is before the last one. -/
theorem cpE_le {x y : En} : cpE x y ≤ 0 ↔ y.len < x.len ∨ (y.len = x.len ∧ (V x.v x.w < V y.v y.w ∨ (V x.v x.w = V y.v y.w ∧ (V x.m x.n < V y.m y.n ∨ (V x.m x.n = V y.m y.n ∧ x.act ≤ y.act))))) := by
  unfold cpE orZ
  rcases cmpZ_vals y.len x.len with ⟨a, a'⟩ | ⟨a, a'⟩ | ⟨a, a'⟩ <;> rw [a]
  · simp; omega
  · rcases cmpV_vals (V x.v x.w) (V y.v y.w) with ⟨b, b'⟩ | ⟨b, b'⟩ | ⟨b, b'⟩ <;> rw [b]
    · simp; omega
    · rcases cmpV_vals (V x.m x.n) (V y.m y.n) with ⟨c, c'⟩ | ⟨c, c'⟩ | ⟨c, c'⟩ <;> rw [c]
      · simp; omega
      · rcases cmpZ_vals x.act y.act with ⟨d, d'⟩ | ⟨d, d'⟩ | ⟨d, d'⟩ <;> rw [d] <;> simp <;> omega
      · simp; omega
    · simp; omega
  · simp; omega

theorem cpE_trans {x y z : En} (h1 : cpE x y ≤ 0) (h2 : cpE y z ≤ 0) : cpE x z ≤ 0 := by
  rw [cpE_le] at *
  omega

theorem cpE_total (x y : En) : cpE x y ≤ 0 ∨ cpE y x ≤ 0 := by
  have := cpE_turn x y; omega

theorem cpE_anti {x y : En} (h1 : cpE x y ≤ 0) (h2 : cpE y x ≤ 0) : x = y := by
  have := cpE_turn x y
  exact cpE_zero.1 (by omega)

/-- Each one is no later than all behind it. -/
def Sorted : List En → Prop := List.Pairwise fun x y => cpE x y ≤ 0

/-- Two sorted rows of the same entries are the same. -/
theorem sorted_uniq : ∀ {l m : List En}, l.Perm m → Sorted l → Sorted m → l = m
  | [], m, h, _, _ => (List.nil_perm.1 h).symm
  | x :: l, [], h, _, _ => absurd (List.perm_nil.1 h) (by simp)
  | x :: l, y :: m, h, hl, hm => by
    have hl' := List.pairwise_cons.1 hl
    have hm' := List.pairwise_cons.1 hm
    have e : x = y := by
      have hx : x ∈ y :: m := h.mem_iff.1 (by simp)
      have hy : y ∈ x :: l := h.mem_iff.2 (by simp)
      rcases List.mem_cons.1 hx with e | hx
      · exact e
      · rcases List.mem_cons.1 hy with e | hy
        · exact e.symm
        · exact cpE_anti (hl'.1 y hy) (hm'.1 x hx)
    subst e
    rw [sorted_uniq (List.Perm.cons_inv h) hl'.2 hm'.2]

/-- Put ahead of the first one that is behind it. -/
def insE (out : List En) (x : En) : List En := out.takeWhile (fun y => decide (cpE y x ≤ 0)) ++ x :: out.dropWhile (fun y => decide (cpE y x ≤ 0))

/-- A row sorted, one by one. -/
def srE : List En → List En := List.foldl insE []

theorem insE_perm (out : List En) (x : En) : (insE out x).Perm (out ++ [x]) := by
  unfold insE
  refine List.perm_middle.trans ?_
  rw [List.takeWhile_append_dropWhile]
  exact (List.perm_append_singleton x out).symm

theorem insE_sorted {out : List En} (h : Sorted out) (x : En) : Sorted (insE out x) := by
  unfold insE
  induction out with
  | nil => simp [Sorted]
  | cons y l ih =>
    have hh := List.pairwise_cons.1 h
    by_cases hc : cpE y x ≤ 0
    · rw [List.takeWhile_cons_of_pos (by simpa using hc), List.dropWhile_cons_of_pos (by simpa using hc)]
      refine List.pairwise_cons.2 ⟨fun z hz => ?_, ih hh.2⟩
      rcases List.mem_append.1 hz with h1 | h1
      · exact hh.1 z ((List.takeWhile_sublist _).subset h1)
      · rcases List.mem_cons.1 h1 with rfl | h1
        · exact hc
        · exact hh.1 z ((List.dropWhile_sublist _).subset h1)
    · rw [List.takeWhile_cons_of_neg (by simpa using hc), List.dropWhile_cons_of_neg (by simpa using hc)]
      have hyx : cpE x y ≤ 0 := by rcases cpE_total x y with h1 | h1
                                   · exact h1
                                   · exact absurd h1 hc
      refine List.pairwise_cons.2 ⟨fun z hz => ?_, h⟩
      rcases List.mem_cons.1 hz with rfl | hz
      · exact hyx
      · exact cpE_trans hyx (hh.1 z hz)

theorem foldl_ins : ∀ (l out : List En), Sorted out → Sorted (l.foldl insE out) ∧ (l.foldl insE out).Perm (out ++ l)
  | [], out, h => ⟨h, by simp⟩
  | x :: l, out, h => by
    obtain ⟨h1, h2⟩ := foldl_ins l (insE out x) (insE_sorted h x)
    refine ⟨h1, h2.trans ?_⟩
    have := (insE_perm out x).append_right l
    simpa using this

theorem srE_sorted (l : List En) : Sorted (srE l) := (foldl_ins l [] (by simp [Sorted])).1
theorem srE_perm (l : List En) : (srE l).Perm l := (foldl_ins l [] (by simp [Sorted])).2

/-- What is sorted, of the same entries, is it. -/
theorem srE_uniq {l m : List En} (h : Sorted m) (hp : m.Perm l) : m = srE l := sorted_uniq (hp.trans (srE_perm l).symm) h (srE_sorted l)

theorem srE_length (l : List En) : (srE l).length = l.length := (srE_perm l).length_eq

theorem at_append_left {T : Type} [Inhabited T] {l m : List T} {k : Nat} (h : k < l.length) : at' (l ++ m) k = at' l k := by
  unfold at'
  rw [List.getD_eq_getElem?_getD, List.getD_eq_getElem?_getD, List.getElem?_append_left h]

theorem at_append_one {T : Type} [Inhabited T] {l : List T} {x : T} : at' (l ++ [x]) l.length = x := by
  unfold at'
  rw [List.getD_eq_getElem?_getD, List.getElem?_append_right (Nat.le_refl _), Nat.sub_self]; rfl

/-- One more that matches, and is longer than all, is the best one. -/
theorem tell_last {l : List En} {x : En} {a b : BitVec 64} (hm : mtE x a b = true) (hl : ∀ j, j < l.length → (at' l j).len < x.len) : tlI (l ++ [x]) a b = x.act := by
  have h : bsI (l ++ [x]) a b = l.length := by
    refine (bsI_spec _ _ _).uniq (.inr ⟨l.length, rfl, by omega, by simp, by rw [at_append_one]; exact hm, fun j _ hj _ => ?_⟩)
    rw [at_append_one]
    rcases Nat.lt_trichotomy j l.length with h | h | h
    · rw [at_append_left h]
      have := hl j h
      exact ⟨by omega, fun _ => this⟩
    · rw [h, at_append_one]; exact ⟨Int.le_refl _, fun h => by omega⟩
    · simp at hj; omega
  unfold tlI
  rw [h, if_neg (by omega), show ((l.length : Int)).toNat = l.length from rfl, at_append_one]

theorem srE_snoc (l : List En) (x : En) : srE (l ++ [x]) = insE (srE l) x := by unfold srE; rw [List.foldl_append]; rfl

theorem srE_idem (l : List En) : srE (srE l) = srE l := (srE_uniq (srE_sorted l) (List.Perm.refl _)).symm

theorem cpE_small (x y : En) : -1 ≤ cpE x y ∧ cpE x y ≤ 1 := by
  unfold cpE orZ
  rcases cmpZ_vals y.len x.len with ⟨a, _⟩ | ⟨a, _⟩ | ⟨a, _⟩ <;> rw [a]
  · simp
  · rcases cmpV_vals (V x.v x.w) (V y.v y.w) with ⟨b, _⟩ | ⟨b, _⟩ | ⟨b, _⟩ <;> rw [b]
    · simp
    · rcases cmpV_vals (V x.m x.n) (V y.m y.n) with ⟨c, _⟩ | ⟨c, _⟩ | ⟨c, _⟩ <;> rw [c]
      · simp
      · rcases cmpZ_vals x.act y.act with ⟨d, _⟩ | ⟨d, _⟩ | ⟨d, _⟩ <;> rw [d] <;> simp
      · simp
    · simp
  · simp

/-- Where to put one: behind those that are not behind it. -/
theorem insE_at {out : List En} {x : En} : ∀ {k : Nat}, k ≤ out.length → (∀ j, j < k → cpE (at' out j) x ≤ 0) → (k < out.length → ¬ cpE (at' out k) x ≤ 0) → insE out x = out.take k ++ x :: out.drop k := by
  intro k hk h1 h2
  have key : ∀ (out : List En) (k : Nat), k ≤ out.length → (∀ j, j < k → cpE (at' out j) x ≤ 0) → (k < out.length → ¬ cpE (at' out k) x ≤ 0) →
      out.takeWhile (fun y => decide (cpE y x ≤ 0)) = out.take k ∧ out.dropWhile (fun y => decide (cpE y x ≤ 0)) = out.drop k := by
    intro out
    induction out with
    | nil => intro k hk _ _; simp at hk; subst hk; simp
    | cons y l ih =>
      intro k hk h1 h2
      cases k with
      | zero =>
        have : ¬ cpE y x ≤ 0 := h2 (by simp)
        rw [List.takeWhile_cons_of_neg (by simpa using this), List.dropWhile_cons_of_neg (by simpa using this)]
        simp
      | succ k =>
        have h0 : cpE y x ≤ 0 := h1 0 (by omega)
        rw [List.takeWhile_cons_of_pos (by simpa using h0), List.dropWhile_cons_of_pos (by simpa using h0)]
        obtain ⟨a, b⟩ := ih k (by simpa using hk) (fun j hj => h1 (j + 1) (by omega)) (fun h => h2 (by simpa using h))
        rw [a, b]; simp
  obtain ⟨a, b⟩ := key out k hk h1 h2
  unfold insE
  rw [a, b]

/-- A sorted row is ordered. -/
theorem sorted_ordered {l : List En} (h : Sorted l) : orE l = true := by
  rw [orE_iff]
  intro i hi k hk hik
  have hp := List.pairwise_iff_getElem.1 h i k hi hk hik
  have e1 : l[i] = at' l i := by have := at_get hi; rw [List.getElem?_eq_getElem hi] at this; exact Option.some_inj.1 this
  have e2 : l[k] = at' l k := by have := at_get hk; rw [List.getElem?_eq_getElem hk] at this; exact Option.some_inj.1 this
  rw [e1, e2, cpE_le] at hp
  unfold abE
  rw [Bool.and_eq_false_iff]
  left
  rw [decide_eq_false_iff_not]
  omega

end Go.Sx.M
