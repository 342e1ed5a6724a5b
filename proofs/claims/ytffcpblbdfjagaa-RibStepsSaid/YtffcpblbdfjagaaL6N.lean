/-
  Layer 6: the best route, the nearest one that covers, chains: plain mathematics.
-/
import Derived.Test.YtffcpblbdfjagaaL6M
namespace Go.Sx.M
open Go.Proofs.Ytffcpblbdfjagaa.L1

/-- Of the first n, looked at in their order, the first one of those that are the greatest; -1: there is none. -/
def fbX {T : Type} [Inhabited T] (ok : T → Bool) (ln : T → Int) (l : List T) : Nat → Int
  | 0 => -1
  | n + 1 => if (decide (fbX ok ln l n < 0) || decide (ln (at' l n) > ln (at' l (fbX ok ln l n).toNat))) && ok (at' l n) then (n : Int) else fbX ok ln l n

/-- It is that one. -/
def FbX {T : Type} [Inhabited T] (ok : T → Bool) (ln : T → Int) (l : List T) (n : Nat) (r : Int) : Prop :=
  (r = -1 ∧ ∀ j, j < n → ok (at' l j) = false) ∨ ∃ i : Nat, r = i ∧ i < n ∧ ok (at' l i) = true ∧ ∀ j, j < n → ok (at' l j) = true → ln (at' l j) ≤ ln (at' l i) ∧ (j < i → ln (at' l j) < ln (at' l i))

theorem fbX_spec {T : Type} [Inhabited T] (ok : T → Bool) (ln : T → Int) (l : List T) : ∀ n, FbX ok ln l n (fbX ok ln l n)
  | 0 => .inl ⟨rfl, fun j h => by omega⟩
  | n + 1 => by
    have ih := fbX_spec ok ln l n
    unfold fbX
    generalize fbX ok ln l n = r at ih
    cases hm : ok (at' l n) with
    | false =>
      rw [Bool.and_false, if_neg (by simp)]
      rcases ih with ⟨h1, h2⟩ | ⟨i, h1, h2, h3, h4⟩
      · exact .inl ⟨h1, fun j hj => by
          rcases Nat.lt_or_eq_of_le (Nat.le_of_lt_succ hj) with h | rfl
          · exact h2 j h
          · exact hm⟩
      · exact .inr ⟨i, h1, by omega, h3, fun j hj hj2 => by
          rcases Nat.lt_or_eq_of_le (Nat.le_of_lt_succ hj) with h | rfl
          · exact h4 j h hj2
          · rw [hm] at hj2; cases hj2⟩
    | true =>
      rw [Bool.and_true]
      rcases ih with ⟨rfl, h2⟩ | ⟨i, rfl, h2, h3, h4⟩
      · rw [if_pos (by simp)]
        exact .inr ⟨n, rfl, by omega, hm, fun j hj hj2 => by
          rcases Nat.lt_or_eq_of_le (Nat.le_of_lt_succ hj) with h | rfl
          · rw [h2 j h] at hj2; cases hj2
          · exact ⟨Int.le_refl _, fun h => by omega⟩⟩
      · have e3 : ((i : Int)).toNat = i := by omega
        rw [e3, show decide ((i : Int) < 0) = false from by simp, Bool.false_or]
        by_cases hl : ln (at' l n) > ln (at' l i)
        · rw [if_pos (by simpa using hl)]
          exact .inr ⟨n, rfl, by omega, hm, fun j hj hj2 => by
            rcases Nat.lt_or_eq_of_le (Nat.le_of_lt_succ hj) with h | rfl
            · have := (h4 j h hj2).1
              exact ⟨by omega, fun _ => by omega⟩
            · exact ⟨Int.le_refl _, fun h => by omega⟩⟩
        · rw [if_neg (by simpa using hl)]
          exact .inr ⟨i, rfl, by omega, h3, fun j hj hj2 => by
            rcases Nat.lt_or_eq_of_le (Nat.le_of_lt_succ hj) with h | rfl
            · exact h4 j h hj2
            · exact ⟨by omega, fun h => by omega⟩⟩

theorem FbX.uniq {T : Type} [Inhabited T] {ok : T → Bool} {ln : T → Int} {l : List T} {n : Nat} {r s : Int} (h : FbX ok ln l n r) (h' : FbX ok ln l n s) : r = s := by
  rcases h with ⟨rfl, h⟩ | ⟨i, rfl, hi, h1, h2⟩ <;> rcases h' with ⟨rfl, g⟩ | ⟨k, rfl, hk, g1, g2⟩
  · rfl
  · rw [h k hk] at g1; cases g1
  · rw [g i hi] at h1; cases h1
  · have a1 := h2 k hk g1
    have a2 := g2 i hi h1
    rcases Nat.lt_trichotomy i k with h | h | h
    · have := a2.2 h; omega
    · rw [h]
    · have := a1.2 h; omega

/-- It matches, and its length may be. -/
def okR (c d : BitVec 64) (x : Ro) : Bool := mtP x.p c d && (decide (0 ≤ x.p.len) && decide (x.p.len ≤ 128))

def lnR (x : Ro) : Int := x.p.len

def bxR (l : List Ro) (c d : BitVec 64) : Int := fbX (okR c d) lnR l l.length

/-- The best route for an address, if there is one. -/
def bsR (l : List Ro) (c d : BitVec 64) : Option Ro := if bxR l c d < 0 then none else some (at' l (bxR l c d).toNat)

/-- What is to be done. -/
def tlR (l : List Ro) (c d : BitVec 64) : Int := match bsR l c d with | none => 0 | some x => x.act

/-- The nearest route that covers a prefix. -/
def cvrR (l : List Ro) (p : Pf) : Option Ro := bsR (l.filter fun x => decide (x.p.len < p.len)) p.a p.b

/-- A prefix's route. -/
def fdR (l : List Ro) (p : Pf) : Option Ro := l.find? fun x => decide (x.p = p)

theorem bsR_of {l : List Ro} {c d : BitVec 64} {i : Nat} (hi : i < l.length) (h1 : okR c d (at' l i) = true) (h2 : ∀ j, j < l.length → okR c d (at' l j) = true → lnR (at' l j) ≤ lnR (at' l i) ∧ (j < i → lnR (at' l j) < lnR (at' l i))) : bsR l c d = some (at' l i) := by
  have : bxR l c d = i := (fbX_spec _ _ _ _).uniq (.inr ⟨i, rfl, hi, h1, h2⟩)
  unfold bsR
  rw [this, if_neg (by omega)]; rfl

theorem bsR_none {l : List Ro} {c d : BitVec 64} (h : ∀ j, j < l.length → okR c d (at' l j) = false) : bsR l c d = none := by
  have : bxR l c d = -1 := (fbX_spec _ _ _ _).uniq (.inl ⟨rfl, h⟩)
  unfold bsR
  rw [this, if_pos (by omega)]

theorem bsR_cases (l : List Ro) (c d : BitVec 64) : (bsR l c d = none ∧ ∀ x ∈ l, okR c d x = false) ∨ ∃ x, x ∈ l ∧ bsR l c d = some x ∧ okR c d x = true ∧ ∀ y ∈ l, okR c d y = true → y.p.len ≤ x.p.len := by
  rcases fbX_spec (okR c d) lnR l l.length with ⟨h1, h2⟩ | ⟨i, h1, hi, h2, h3⟩
  · exact .inl ⟨bsR_none h2, fun x hx => by obtain ⟨j, hj, rfl⟩ := mem_at hx; exact h2 j hj⟩
  · exact .inr ⟨at' l i, at_mem hi, bsR_of hi h2 h3, h2, fun y hy hm => by obtain ⟨j, hj, rfl⟩ := mem_at hy; exact (h3 j hj hm).1⟩

theorem okR_tb {w : Int} {l : List Ro} (h : TB w l) {x : Ro} (hx : x ∈ l) (c d : BitVec 64) : okR c d x = mtP x.p c d := by
  obtain ⟨h1, h2, h3, _⟩ := riP_iff.1 (h.rip hx)
  unfold okR
  rw [show decide (0 ≤ x.p.len) = true from by simpa using h2, show decide (x.p.len ≤ 128) = true from by simp; omega]
  simp

theorem bsR_tb {w : Int} {l : List Ro} (h : TB w l) (c d : BitVec 64) : (bsR l c d = none ∧ ∀ x ∈ l, mtP x.p c d = false) ∨ ∃ x, x ∈ l ∧ bsR l c d = some x ∧ mtP x.p c d = true ∧ ∀ y ∈ l, mtP y.p c d = true → y.p.len ≤ x.p.len := by
  rcases bsR_cases l c d with ⟨h1, h2⟩ | ⟨x, hx, h1, h2, h3⟩
  · exact .inl ⟨h1, fun x hx => by rw [← okR_tb h hx]; exact h2 x hx⟩
  · exact .inr ⟨x, hx, h1, by rw [← okR_tb h hx]; exact h2, fun y hy hm => h3 y hy (by rw [okR_tb h hy]; exact hm)⟩

/-- Of a table the longest one that matches is the best one. -/
theorem bsR_max {w : Int} {l : List Ro} (h : TB w l) {c d : BitVec 64} {x : Ro} (hx : x ∈ l) (hm : mtP x.p c d = true) (hl : ∀ y ∈ l, mtP y.p c d = true → y.p.len ≤ x.p.len) : bsR l c d = some x := by
  rcases bsR_tb h c d with ⟨_, h2⟩ | ⟨y, hy, h1, h2, h3⟩
  · rw [h2 x hx] at hm; cases hm
  · rw [h1, Option.some_inj]
    exact h.one hy hx (riP_eq (h.rip hy) (h.rip hx) (Int.le_antisymm (hl y hy h2) (h3 x hx hm)) h2 hm)

/-- The best ones of two tables are one where the same routes match. -/
theorem bsR_same {w : Int} {l m : List Ro} (hl : TB w l) (hm : TB w m) {c d c' d' : BitVec 64} (h : ∀ x, (x ∈ l ∧ mtP x.p c d = true) ↔ (x ∈ m ∧ mtP x.p c' d' = true)) : bsR l c d = bsR m c' d' := by
  rcases bsR_tb hl c d with ⟨h1, h2⟩ | ⟨x, hx, h1, h2, h3⟩
  · rcases bsR_tb hm c' d' with ⟨g1, _⟩ | ⟨y, hy, _, g2, _⟩
    · rw [h1, g1]
    · obtain ⟨a, b⟩ := (h y).2 ⟨hy, g2⟩
      rw [h2 y a] at b; cases b
  · obtain ⟨a, b⟩ := (h x).1 ⟨hx, h2⟩
    rw [h1]
    exact (bsR_max hm a b fun y hy hy2 => by
      obtain ⟨e, f⟩ := (h y).2 ⟨hy, hy2⟩
      exact h3 y e f).symm

theorem shorter_tb {w : Int} {l : List Ro} (h : TB w l) (n : Int) : TB w (l.filter fun x => decide (x.p.len < n)) := h.sub List.filter_sublist

/-- Without the best one, the one that covers it is. -/
theorem best_drop {w : Int} {l : List Ro} (h : TB w l) {c d : BitVec 64} {r : Ro} (hb : bsR l c d = some r) : bsR (drR l r.p) c d = cvrR l r.p ∧ mtP r.p c d = true ∧ r ∈ l := by
  rcases bsR_tb h c d with ⟨h1, _⟩ | ⟨x, hx, h1, h2, h3⟩
  · rw [h1] at hb; cases hb
  · rw [h1, Option.some_inj] at hb
    subst hb
    refine ⟨bsR_same (drR_tb h _) (shorter_tb h _) fun y => ?_, h2, hx⟩
    rw [mem_drR, List.mem_filter, decide_eq_true_eq]
    constructor
    · rintro ⟨⟨hy, hne⟩, hm⟩
      have hle := h3 y hy hm
      have hlt : y.p.len < x.p.len := by
        rcases Int.lt_or_eq_of_le hle with h' | h'
        · exact h'
        · exact absurd (riP_eq (h.rip hy) (h.rip hx) h' hm h2) hne
      refine ⟨⟨hy, hlt⟩, mtP_iff.2 fun i hi hi2 => ?_⟩
      rw [mtP_iff.1 hm i hi hi2, mtP_iff.1 h2 i hi (by omega)]
    · rintro ⟨⟨hy, hlt⟩, hm⟩
      refine ⟨⟨hy, fun e => by rw [e] at hlt; omega⟩, mtP_iff.2 fun i hi hi2 => ?_⟩
      rw [mtP_iff.1 hm i hi hi2, mtP_iff.1 h2 i hi (by omega)]

theorem fdR_cases (l : List Ro) (p : Pf) : (fdR l p = none ∧ ∀ x ∈ l, x.p ≠ p) ∨ ∃ x, x ∈ l ∧ x.p = p ∧ fdR l p = some x := by
  unfold fdR
  cases h : l.find? fun x => decide (x.p = p) with
  | none => exact .inl ⟨rfl, fun x hx => by have := List.find?_eq_none.1 h x hx; simpa using this⟩
  | some x => exact .inr ⟨x, List.mem_of_find?_eq_some h, by have := List.find?_some h; simpa using this, rfl⟩

theorem fdR_tb {w : Int} {l : List Ro} (h : TB w l) {x : Ro} (hx : x ∈ l) : fdR l x.p = some x := by
  rcases fdR_cases l x.p with ⟨_, h2⟩ | ⟨y, hy, he, h1⟩
  · exact absurd rfl (h2 x hx)
  · rw [h1, h.one hy hx he]

theorem drR_none {l : List Ro} {p : Pf} (h : ∀ x ∈ l, x.p ≠ p) : drR l p = l := by
  unfold drR
  rw [List.filter_eq_self]
  intro x hx
  simpa using h x hx

theorem drR_found {w : Int} {l : List Ro} (h : TB w l) {x : Ro} (hx : x ∈ l) : (drR l x.p).length + 1 = l.length := by
  induction l with
  | nil => cases hx
  | cons y l ih =>
    obtain ⟨h1, h2⟩ := List.pairwise_cons.1 h.sorted
    have h' : TB w l := h.sub (List.sublist_cons_self _ _)
    by_cases he : y.p = x.p
    · have e : drR (y :: l) x.p = drR l x.p := by unfold drR; rw [List.filter_cons_of_neg (by simpa using he)]
      rw [e, drR_none fun z hz hzp => by
        have := h1 z hz
        rw [hzp, he, cpP_self] at this; omega]
      simp
    · have e : drR (y :: l) x.p = y :: drR l x.p := by unfold drR; rw [List.filter_cons_of_pos (by simpa using he)]
      rw [e, List.length_cons, List.length_cons]
      rcases List.mem_cons.1 hx with rfl | hx'
      · exact absurd rfl he
      · rw [ih h' hx']

/-- Under the prefix of no bits are all others. -/
theorem unR_all {w : Int} {l : List Ro} (h : TB w l) : unR l ⟨0#64, 0#64, 0⟩ = drR l ⟨0#64, 0#64, 0⟩ := by
  unfold unR drR
  refine List.filter_congr fun x hx => ?_
  have : cvP ⟨0#64, 0#64, 0⟩ x.p = true := by
    rw [cvP_iff]
    exact ⟨(riP_iff.1 (h.rip hx)).2.1, fun i hi hi2 => by simp only at hi2; omega⟩
  rw [this, Bool.and_true]

/-- How many cover one another, one behind the other, at most ('n': no more than so many are looked for). -/
def chF : Nat → List Ro → Int
  | 0, _ => 0
  | n + 1, l => l.foldl (fun m x => if 1 + chF n (unR l x.p) > m then 1 + chF n (unR l x.p) else m) 0

def chR (l : List Ro) : Int := chF l.length l

theorem unR_lt {l : List Ro} {x : Ro} (hx : x ∈ l) : (unR l x.p).length < l.length := by
  unfold unR
  exact List.length_filter_lt_length_iff_exists.2 ⟨x, hx, by simp⟩

theorem mxF_ge (f : Ro → Int) : ∀ (l : List Ro) (m : Int), m ≤ l.foldl (fun m x => if f x > m then f x else m) m ∧ ∀ x ∈ l, f x ≤ l.foldl (fun m x => if f x > m then f x else m) m
  | [], m => ⟨Int.le_refl _, fun x hx => by cases hx⟩
  | y :: l, m => by
    rw [List.foldl_cons]
    obtain ⟨h1, h2⟩ := mxF_ge f l (if f y > m then f y else m)
    have h3 : m ≤ (if f y > m then f y else m) ∧ f y ≤ (if f y > m then f y else m) := by split <;> omega
    refine ⟨Int.le_trans h3.1 h1, fun x hx => ?_⟩
    rcases List.mem_cons.1 hx with rfl | hx
    · exact Int.le_trans h3.2 h1
    · exact h2 x hx

theorem mxF_is (f : Ro → Int) : ∀ (l : List Ro) (m : Int), l.foldl (fun m x => if f x > m then f x else m) m = m ∨ ∃ x ∈ l, l.foldl (fun m x => if f x > m then f x else m) m = f x
  | [], m => .inl rfl
  | y :: l, m => by
    rw [List.foldl_cons]
    rcases mxF_is f l (if f y > m then f y else m) with h | ⟨x, hx, h⟩
    · rw [h]
      split
      · exact .inr ⟨y, by simp, rfl⟩
      · exact .inl rfl
    · exact .inr ⟨x, by simp [hx], h⟩

theorem foldl_same {f g : Int → Ro → Int} : ∀ (l : List Ro) (m : Int), (∀ a x, x ∈ l → f a x = g a x) → l.foldl f m = l.foldl g m
  | [], _, _ => rfl
  | y :: l, m, h => by
    rw [List.foldl_cons, List.foldl_cons, h m y (by simp)]
    exact foldl_same l _ fun a x hx => h a x (by simp [hx])

theorem chF_stable : ∀ (n m : Nat) (l : List Ro), l.length ≤ n → l.length ≤ m → chF n l = chF m l
  | 0, m, l, h, _ => by
    have : l = [] := List.eq_nil_of_length_eq_zero (by omega)
    subst this
    cases m <;> rfl
  | n + 1, 0, l, _, h => by
    have : l = [] := List.eq_nil_of_length_eq_zero (by omega)
    subst this
    rfl
  | n + 1, m + 1, l, h1, h2 => by
    unfold chF
    refine foldl_same _ _ fun a x hx => ?_
    have := unR_lt hx
    rw [chF_stable n m (unR l x.p) (by omega) (by omega)]

/-- Each one covers the next ones. -/
def IsCh (s : List Ro) : Prop := s.Pairwise fun x y => y.p ≠ x.p ∧ cvP x.p y.p = true

theorem ch_upper : ∀ (n : Nat) (l s : List Ro), l.length ≤ n → IsCh s → (∀ x ∈ s, x ∈ l) → (s.length : Int) ≤ chF n l
  | 0, l, s, h, _, hs => by
    have : l = [] := List.eq_nil_of_length_eq_zero (by omega)
    subst this
    cases s with
    | nil => exact Int.le_refl _
    | cons x s => have := hs x (by simp); cases this
  | n + 1, l, s, h, hc, hs => by
    unfold chF
    obtain ⟨h1, h2⟩ := mxF_ge (fun x => 1 + chF n (unR l x.p)) l 0
    cases s with
    | nil => exact h1
    | cons x s =>
      obtain ⟨g1, g2⟩ := List.pairwise_cons.1 hc
      have hx := hs x (by simp)
      have hlt := unR_lt hx
      have := ch_upper n (unR l x.p) s (by omega) g2 fun y hy => mem_unR.2 ⟨hs y (by simp [hy]), (g1 y hy).1, (g1 y hy).2⟩
      have h3 := h2 x hx
      rw [List.length_cons]
      omega

theorem ch_exists : ∀ (n : Nat) (l : List Ro), l.length ≤ n → ∃ s, IsCh s ∧ (∀ x ∈ s, x ∈ l) ∧ (s.length : Int) = chF n l
  | 0, l, _ => ⟨[], .nil, (fun x hx => by cases hx), rfl⟩
  | n + 1, l, h => by
    unfold chF
    rcases mxF_is (fun x => 1 + chF n (unR l x.p)) l 0 with e | ⟨x, hx, e⟩
    · exact ⟨[], .nil, (fun x hx => by cases hx), by rw [e]; rfl⟩
    · have hlt := unR_lt hx
      obtain ⟨s, h1, h2, h3⟩ := ch_exists n (unR l x.p) (by omega)
      refine ⟨x :: s, List.pairwise_cons.2 ⟨fun y hy => ?_, h1⟩, fun y hy => ?_, ?_⟩
      · obtain ⟨_, a, b⟩ := mem_unR.1 (h2 y hy)
        exact ⟨a, b⟩
      · rcases List.mem_cons.1 hy with rfl | hy
        · exact hx
        · exact (mem_unR.1 (h2 y hy)).1
      · rw [e, List.length_cons]; omega

theorem chR_upper {l s : List Ro} (hc : IsCh s) (hs : ∀ x ∈ s, x ∈ l) : (s.length : Int) ≤ chR l := ch_upper _ l s (Nat.le_refl _) hc hs
theorem chR_exists (l : List Ro) : ∃ s, IsCh s ∧ (∀ x ∈ s, x ∈ l) ∧ (s.length : Int) = chR l := ch_exists _ l (Nat.le_refl _)

/-- With a route more they are as many, or one more. -/
theorem chR_put (l : List Ro) (r : Ro) : chR l ≤ chR (ptR l r) ∧ chR (ptR l r) ≤ chR l + 1 := by
  constructor
  · obtain ⟨s, h1, h2, h3⟩ := chR_exists l
    have hc : IsCh (s.map fun x => if x.p = r.p then r else x) := by
      unfold IsCh
      rw [List.pairwise_map]
      refine h1.imp fun {x y} h => ?_
      have e : ∀ z : Ro, (if z.p = r.p then r else z).p = z.p := fun z => by split <;> simp_all
      rw [e, e]
      exact h
    have := chR_upper (l := ptR l r) hc fun x hx => by
      obtain ⟨y, hy, rfl⟩ := List.mem_map.1 hx
      rw [mem_ptR]
      split
      · exact .inl rfl
      · rename_i hne; exact .inr ⟨h2 y hy, hne⟩
    rw [List.length_map] at this
    omega
  · obtain ⟨s, h1, h2, h3⟩ := chR_exists (ptR l r)
    have hc : IsCh (s.filter fun x => !decide (x.p = r.p)) := h1.filter _
    have hu := chR_upper (l := l) hc fun x hx => by
      rw [List.mem_filter] at hx
      have hne : x.p ≠ r.p := by simpa using hx.2
      rcases mem_ptR.1 (h2 x hx.1) with rfl | ⟨h, _⟩
      · exact absurd rfl hne
      · exact h
    have hcount : s.length ≤ (s.filter fun x => !decide (x.p = r.p)).length + 1 := by
      have key : ∀ s : List Ro, IsCh s → s.length ≤ (s.filter fun x => !decide (x.p = r.p)).length + 1 := by
        intro s
        induction s with
        | nil => intro _; simp
        | cons y s ih =>
          intro hc
          obtain ⟨g1, g2⟩ := List.pairwise_cons.1 hc
          by_cases he : y.p = r.p
          · rw [List.filter_cons_of_neg (by simpa using he)]
            have : s.filter (fun x => !decide (x.p = r.p)) = s := List.filter_eq_self.2 fun z hz => by
              have := (g1 z hz).1
              rw [he] at this
              simpa using this
            rw [this]; simp
          · rw [List.filter_cons_of_pos (by simpa using he), List.length_cons, List.length_cons]
            have := ih g2
            omega
      exact key s h1
    omega

end Go.Sx.M
